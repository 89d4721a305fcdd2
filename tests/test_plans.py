"""Point 6: when a plan holds for a number of minutes."""

import copy
import inspect
import unittest

from emptyhall.house import House
from emptyhall.walks import holds

# Way 0 and way 1 are alike but for their number, both from 1 outside; way 2 leads from 2 to 1, way 3 from 2 outside.
PEOPLE = [3, 2, 0]
WAYS = [(1, 0, 2, 1), (1, 0, 2, 1), (2, 1, 1, 2), (2, 0, 9, 4)]


class Plans(unittest.TestCase):
    def setUp(self):
        self.house = House(PEOPLE, WAYS)

    def assert_holds(self, walks, minutes):
        self.assertIs(holds(self.house, walks, minutes), True)

    def assert_fails(self, walks, minutes):
        self.assertIs(holds(self.house, walks, minutes), False)

    def test_no_walks_at_all(self):
        self.assert_holds([], 0)
        self.assert_holds([], 60)
        self.assertIs(holds(House([0], []), [], 0), True)

    def test_ordinary_plans(self):
        self.assert_holds([(1, [(0, 0)])], 10)
        self.assert_holds([(1, [(0, 0)]), (1, [(0, 0)]), (1, [(1, 0)]), (2, [(0, 2), (2, 0)]), (2, [(0, 3)])], 4)

    def test_nobody_is_outside_at_minute_nought(self):
        self.assert_fails([(1, [(0, 0)])], 0)

    def test_outside_just_by_the_minutes_and_one_too_late(self):
        self.assert_holds([(1, [(0, 0)])], 1)
        self.assert_holds([(2, [(0, 3)])], 4)
        self.assert_fails([(2, [(0, 3)])], 3)
        self.assert_holds([(1, [(59, 0)])], 60)
        self.assert_fails([(1, [(60, 0)])], 60)
        self.assert_holds([(2, [(3, 2), (8, 1)])], 9)
        self.assert_fails([(2, [(3, 2), (8, 1)])], 8)

    def test_each_walk_must_be_outside_in_time(self):
        early = (1, [(0, 0)])
        late = (2, [(0, 3)])
        for walks in ([early, late], [late, early]):
            with self.subTest(walks=walks):
                self.assert_holds(walks, 4)
                self.assert_fails(walks, 3)

    def test_far_more_minutes_than_needed(self):
        self.assert_holds([(1, [(0, 0)]), (1, [(700, 0)])], 100000)

    def test_the_people_of_a_room_just_reached_and_passed(self):
        apart = [(1, [(minute, 0)]) for minute in range(4)]
        self.assert_holds(apart[:3], 60)
        self.assert_fails(apart, 60)
        second = [(2, [(minute, 3)]) for minute in range(3)]
        self.assert_holds(second[:2], 60)
        self.assert_fails(second, 60)

    def test_nobody_begins_in_an_empty_room(self):
        house = House([1, 0], [(1, 0, 1, 1), (2, 0, 1, 1)])
        self.assertIs(holds(house, [(1, [(0, 0)])], 5), True)
        self.assertIs(holds(house, [(2, [(0, 1)])], 5), False)

    def test_nine_people_of_one_room(self):
        house = House([9], [(1, 0, 9, 1)])
        self.assertIs(holds(house, [(1, [(0, 0)])] * 9, 1), True)
        self.assertIs(holds(house, [(1, [(0, 0)])] * 9 + [(1, [(1, 0)])], 2), False)

    def test_rooms_are_counted_apart(self):
        self.assert_holds([(1, [(k, 0)]) for k in range(3)] + [(2, [(k, 3)]) for k in range(2)], 60)

    def test_passing_through_a_room_is_no_beginning_in_it(self):
        walks = [(1, [(k, 0)]) for k in range(3)] + [(2, [(0, 2), (5, 0)]), (2, [(1, 2), (5, 1)])]
        self.assert_holds(walks, 60)
        house = House([1, 0], [(1, 2, 1, 1), (2, 0, 1, 1)])
        self.assertIs(holds(house, [(1, [(0, 0), (1, 1)])], 2), True)

    def test_a_width_in_one_minute_just_reached_and_passed(self):
        self.assert_holds([(1, [(0, 0)])] * 2, 1)
        self.assert_fails([(1, [(0, 0)])] * 3, 1)
        self.assert_holds([(1, [(4, 1)])] * 2, 5)
        self.assert_fails([(1, [(4, 1)])] * 3, 5)

    def test_minutes_are_counted_apart(self):
        self.assert_holds([(1, [(0, 0)]), (1, [(0, 0)]), (1, [(1, 0)])], 2)

    def test_only_entering_counts_not_being_on_the_way(self):
        house = House([3], [(1, 0, 1, 6)])
        self.assertIs(holds(house, [(1, [(0, 0)]), (1, [(1, 0)]), (1, [(2, 0)])], 8), True)

    def test_ways_alike_are_counted_apart(self):
        self.assert_holds([(1, [(0, 0)]), (1, [(0, 0)]), (1, [(0, 1)])], 1)

    def test_a_width_in_the_midst_of_a_walk(self):
        self.assert_fails([(2, [(0, 2), (2, 0)]), (2, [(0, 2), (3, 0)])], 60)
        self.assert_holds([(2, [(0, 2), (2, 0)]), (2, [(1, 2), (3, 0)])], 60)

    def test_a_width_at_the_end_of_walks_from_two_rooms(self):
        through = (2, [(0, 2), (2, 0)])
        self.assert_holds([through, (1, [(2, 0)])], 60)
        self.assert_fails([through, (1, [(2, 0)]), (1, [(2, 0)])], 60)
        self.assert_holds([through, (1, [(2, 0)]), (1, [(2, 1)])], 60)

    def test_a_walk_that_enters_one_way_twice(self):
        house = House([2, 0], [(1, 2, 1, 1), (2, 1, 1, 1), (1, 0, 1, 1)])
        round_about = (1, [(0, 0), (1, 1), (2, 0), (3, 1), (4, 2)])
        self.assertIs(holds(house, [round_about], 5), True)
        self.assertIs(holds(house, [round_about, (1, [(0, 2)])], 5), True)
        self.assertIs(holds(house, [round_about, (1, [(4, 2)])], 5), False)
        self.assertIs(holds(house, [round_about, (1, [(2, 0), (5, 1), (6, 2)])], 60), False)

    def test_a_walk_that_is_none_out_of_the_house(self):
        good = (1, [(0, 0)])
        none = (
            (1, []), (0, [(0, 0)]), (4, [(0, 0)]), (-1, [(0, 0)]), (1, [(0, 4)]), (1, [(0, -1)]), (1, [(-1, 0)]),
            (2, [(0, 0)]), (2, [(0, 2)]), (2, [(0, 2), (1, 0)]), (1, [(0, 0), (1, 0)]), (3, []),
        )
        for walk in none:
            with self.subTest(walk=walk):
                self.assert_fails([walk], 60)
                self.assert_fails([good, walk], 60)
                self.assert_fails([walk, good], 60)

    def test_what_has_not_the_form_of_a_walk(self):
        for walk in ((), (1,), None, (1, None), (1, [None]), (1, [(0,)]), ([], [(0, 0)])):
            with self.subTest(walk=walk):
                self.assert_fails([walk], 60)

    def test_all_people_of_the_greatest_house(self):
        house = House([9, 9, 9, 9], [(room, 0, 9, 6) for room in (1, 2, 3, 4)])
        walks = [(room, [(0, room - 1)]) for room in (1, 2, 3, 4) for k in range(9)]
        self.assertIs(holds(house, walks, 6), True)
        self.assertIs(holds(house, walks, 5), False)
        self.assertIs(holds(house, walks + [(4, [(1, 3)])], 60), False)

    def test_name_of_the_interface(self):
        self.assertEqual(list(inspect.signature(holds).parameters), ["house", "walks", "minutes"])


class OwnPlans(unittest.TestCase):
    def test_what_is_handed_in_stays_as_it_was(self):
        house = House(PEOPLE, WAYS)
        plans = (
            [(1, [(0, 0)]), (2, [(0, 2), (2, 0)])],
            [(1, [(0, 0)])] * 3,
            [(2, [(0, 2), (2, 0)]), (1, [])],
            [(9, [(3, 0), (1, 0)])],
            [],
        )
        for walks in plans:
            with self.subTest(walks=walks):
                before = copy.deepcopy(walks)
                holds(house, walks, 5)
                self.assertEqual(walks, before)
                self.assertEqual((house.people(), house.ways()), (PEOPLE, WAYS))

    def test_a_plan_may_be_changed_later(self):
        house = House(PEOPLE, WAYS)
        steps = [(0, 0)]
        walks = [(1, steps)]
        self.assertIs(holds(house, walks, 1), True)
        steps[0] = (1, 0)
        self.assertIs(holds(house, walks, 1), False)
        walks.clear()
        self.assertIs(holds(house, walks, 1), True)

    def test_walks_that_share_their_steps(self):
        house = House(PEOPLE, WAYS)
        steps = [(0, 0)]
        self.assertIs(holds(house, [(1, steps), (1, steps)], 1), True)
        self.assertIs(holds(house, [(1, steps), (1, steps), (1, steps)], 1), False)

    def test_asked_twice_it_tells_the_same(self):
        house = House([1], [(1, 0, 1, 1)])
        for turn in range(3):
            self.assertIs(holds(house, [(1, [(0, 0)])], 1), True)
            self.assertIs(holds(house, [(1, [(0, 0)])] * 2, 1), False)


if __name__ == "__main__":
    unittest.main()
