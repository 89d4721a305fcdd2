"""Points 4 and 5: what a walk out of the house is, and when one who walks so is outside."""

import copy
import inspect
import unittest

from emptyhall.errors import NoWalk
from emptyhall.house import House
from emptyhall.walks import outside_at

# Way 0 leads from 1 to 2, way 1 from 2 to 3, way 2 from 3 outside, way 3 from 2 back to 1, way 4 from 1 outside.
PEOPLE = [3, 1, 0]
WAYS = [(1, 2, 2, 3), (2, 3, 1, 1), (3, 0, 4, 6), (2, 1, 1, 2), (1, 0, 1, 5)]


class WalksOut(unittest.TestCase):
    def setUp(self):
        self.house = House(PEOPLE, WAYS)

    def assert_outside(self, walk, minute):
        self.assertEqual(outside_at(self.house, walk), minute)

    def test_one_step(self):
        self.assert_outside((1, [(0, 4)]), 5)
        self.assert_outside((1, [(7, 4)]), 12)

    def test_several_steps(self):
        self.assert_outside((1, [(0, 0), (3, 1), (4, 2)]), 10)
        self.assert_outside((2, [(0, 1), (1, 2)]), 7)

    def test_the_shortest_way(self):
        self.assertEqual(outside_at(House([1], [(1, 0, 1, 1)]), (1, [(0, 0)])), 1)

    def test_round_in_a_circle(self):
        self.assert_outside((1, [(0, 0), (3, 3), (5, 0), (8, 3), (10, 4)]), 15)

    def test_long_waits_in_a_room(self):
        self.assert_outside((1, [(1000, 4)]), 1005)
        self.assert_outside((1, [(0, 0), (500, 1), (9000, 2)]), 9006)

    def test_from_a_room_without_people(self):
        self.assert_outside((3, [(0, 2)]), 6)

    def test_a_house_with_ten_ways(self):
        house = House([1, 1], [(2, 1, 1, 1)] * 9 + [(1, 0, 1, 4)])
        self.assertEqual(outside_at(house, (1, [(0, 9)])), 4)
        self.assertEqual(outside_at(house, (2, [(0, 0), (1, 9)])), 5)
        self.assertEqual(outside_at(house, (2, [(0, 8), (2, 9)])), 6)

    def test_a_house_of_four_rooms(self):
        house = House([1, 1, 1, 1], [(4, 3, 1, 6), (3, 2, 1, 6), (2, 1, 1, 6), (1, 0, 1, 6)])
        self.assertEqual(outside_at(house, (4, [(0, 0), (6, 1), (12, 2), (18, 3)])), 24)

    def test_name_of_the_interface(self):
        self.assertEqual(list(inspect.signature(outside_at).parameters), ["house", "walk"])


class NoWalksOut(unittest.TestCase):
    def setUp(self):
        self.house = House(PEOPLE, WAYS)

    def assert_refused(self, walk):
        with self.assertRaises(NoWalk):
            outside_at(self.house, walk)

    def test_a_room_that_is_not_there(self):
        for room in (-3, -1, 0, 4, 5):
            with self.subTest(room=room):
                self.assert_refused((room, [(0, 4)]))
                self.assert_refused((room, [(0, 2)]))
                self.assert_refused((room, []))

    def test_a_way_that_is_not_there(self):
        for way in (-5, -1, 5, 10):
            with self.subTest(way=way):
                self.assert_refused((1, [(0, way)]))
                self.assert_refused((1, [(0, 0), (3, way), (4, 2)]))
        with self.assertRaises(NoWalk):
            outside_at(House([1], []), (1, [(0, 0)]))

    def test_a_way_below_nought_that_would_fit_from_the_end(self):
        with self.assertRaises(NoWalk):
            outside_at(House([1], [(1, 0, 1, 1)]), (1, [(0, -1)]))

    def test_no_steps_at_all(self):
        for room in (1, 2, 3):
            with self.subTest(room=room):
                self.assert_refused((room, []))

    def test_the_first_way_begins_elsewhere(self):
        self.assert_refused((2, [(0, 4)]))
        self.assert_refused((1, [(0, 2)]))

    def test_a_next_way_begins_elsewhere(self):
        self.assert_refused((1, [(0, 0), (3, 2)]))
        self.assert_refused((1, [(0, 0), (3, 4)]))

    def test_a_step_behind_the_one_that_ends_outside(self):
        self.assert_refused((1, [(0, 4), (5, 4)]))
        self.assert_refused((1, [(0, 4), (5, 0), (8, 1), (9, 2)]))

    def test_the_last_way_ends_in_a_room(self):
        self.assert_refused((1, [(0, 0)]))
        self.assert_refused((1, [(0, 0), (3, 1)]))
        self.assert_refused((1, [(0, 0), (3, 3)]))

    def test_a_minute_below_nought(self):
        self.assert_refused((1, [(-1, 4)]))
        self.assert_refused((1, [(-9, 0), (3, 1), (4, 2)]))

    def test_a_step_at_and_ahead_of_the_end_of_the_way_ahead(self):
        self.assertEqual(outside_at(self.house, (1, [(2, 0), (5, 1), (6, 2)])), 12)
        self.assert_refused((1, [(2, 0), (4, 1), (6, 2)]))
        self.assert_refused((1, [(2, 0), (5, 1), (5, 2)]))
        self.assert_refused((1, [(2, 0), (2, 1), (6, 2)]))
        self.assert_refused((1, [(9, 0), (3, 1), (4, 2)]))

    def test_a_wait_pushes_the_next_step_on(self):
        self.assertEqual(outside_at(self.house, (1, [(0, 0), (8, 1), (9, 2)])), 15)
        self.assert_refused((1, [(0, 0), (8, 1), (8, 2)]))

    def test_what_has_not_the_form_of_a_walk(self):
        for walk in ((), (1,), (1, [(0, 4)], 1), [1, [(0, 4)]], (1, ((0, 4),)), (1, None), (None, [(0, 4)]), None, 1):
            with self.subTest(walk=walk):
                self.assert_refused(walk)

    def test_what_has_not_the_form_of_a_step(self):
        for step in ((), (0,), (0, 4, 4), [0, 4], None, 4, (None, 4), (0, None), ("0", 4), (0, "4")):
            with self.subTest(step=step):
                self.assert_refused((1, [step]))

    def test_true_and_false_are_no_whole_numbers(self):
        house = House([1], [(1, 0, 1, 1), (1, 0, 1, 1)])
        for walk in ((True, [(0, 0)]), (1, [(False, 0)]), (1, [(0, False)]), (1, [(0, True)])):
            with self.subTest(walk=walk):
                with self.assertRaises(NoWalk):
                    outside_at(house, walk)


class OwnWalks(unittest.TestCase):
    def test_what_is_handed_in_stays_as_it_was(self):
        house = House(PEOPLE, WAYS)
        walk = (1, [(0, 0), (3, 1), (4, 2)])
        outside_at(house, walk)
        self.assertEqual(walk, (1, [(0, 0), (3, 1), (4, 2)]))
        self.assertEqual((house.people(), house.ways()), (PEOPLE, WAYS))

    def test_what_is_refused_stays_as_it_was(self):
        house = House(PEOPLE, WAYS)
        for walk in ((1, []), (1, [(0, 0), (2, 1), (4, 2)]), (9, [(0, 4)]), (1, [(0, 0), (3, 9)])):
            with self.subTest(walk=walk):
                before = copy.deepcopy(walk)
                with self.assertRaises(NoWalk):
                    outside_at(house, walk)
                self.assertEqual(walk, before)
                self.assertEqual((house.people(), house.ways()), (PEOPLE, WAYS))

    def test_a_walk_may_be_changed_later(self):
        house = House(PEOPLE, WAYS)
        steps = [(0, 4)]
        self.assertEqual(outside_at(house, (1, steps)), 5)
        steps[0] = (2, 4)
        self.assertEqual(outside_at(house, (1, steps)), 7)
        steps.clear()
        with self.assertRaises(NoWalk):
            outside_at(house, (1, steps))
        self.assertEqual(outside_at(house, (1, [(0, 4)])), 5)

    def test_a_house_whose_lists_were_changed(self):
        people = list(PEOPLE)
        ways = list(WAYS)
        house = House(people, ways)
        people.clear()
        ways.clear()
        house.ways().clear()
        self.assertEqual(outside_at(house, (1, [(0, 4)])), 5)


if __name__ == "__main__":
    unittest.main()
