"""Points 1 and 2: what a house is, what is none, and that nothing handed in or told is the house's own."""

import copy
import inspect
import unittest

from emptyhall.errors import BadHouse
from emptyhall.house import House

WAY = (1, 0, 2, 1)


class Houses(unittest.TestCase):
    def assert_is(self, people, ways, total):
        house = House(people, ways)
        self.assertEqual(house.people(), people)
        self.assertEqual(house.ways(), ways)
        self.assertEqual(house.total(), total)
        self.assertIs(house.people().__class__, list)
        self.assertIs(house.ways().__class__, list)

    def test_ordinary_houses(self):
        self.assert_is([3, 0], [(1, 0, 2, 1)], 3)
        self.assert_is([2, 5, 1], [(1, 2, 3, 2), (2, 0, 1, 4), (3, 1, 9, 6), (2, 3, 1, 1)], 8)

    def test_order_is_kept(self):
        self.assert_is([4, 1, 3, 2], [(4, 0, 1, 1), (1, 0, 1, 1), (3, 2, 5, 2), (2, 3, 5, 2)], 10)

    def test_one_room_and_four_rooms(self):
        self.assert_is([7], [(1, 0, 1, 1)], 7)
        self.assert_is([1, 2, 3, 4], [(1, 2, 1, 1), (2, 3, 1, 1), (3, 4, 1, 1), (4, 0, 1, 1)], 10)

    def test_rooms_with_no_people(self):
        self.assert_is([0], [(1, 0, 1, 1)], 0)
        self.assert_is([0, 0, 0, 0], [], 0)

    def test_no_ways(self):
        self.assert_is([5, 4], [], 9)

    def test_ways_alike(self):
        self.assert_is([1], [WAY, WAY, WAY], 1)
        self.assert_is([1], [WAY] * 10, 1)

    def test_names_of_the_interface(self):
        self.assertEqual(list(inspect.signature(House).parameters), ["people", "ways"])
        house = House(people=[1], ways=[WAY])
        for told in (house.people, house.ways, house.total):
            self.assertEqual(list(inspect.signature(told).parameters), [])


class Bounds(unittest.TestCase):
    """Each bound just reached and just passed, on either side."""

    def assert_house(self, people, ways):
        house = House(people, ways)
        self.assertEqual((house.people(), house.ways()), (people, ways))

    def assert_refused(self, people, ways):
        with self.assertRaises(BadHouse):
            House(people, ways)

    def assert_asked(self, good, people, ways):
        if good:
            self.assert_house(people, ways)
        else:
            self.assert_refused(people, ways)

    def test_number_of_rooms(self):
        self.assert_refused([], [])
        self.assert_house([1], [])
        self.assert_house([1, 1, 1, 1], [])
        self.assert_refused([1, 1, 1, 1, 1], [])

    def test_people_of_a_room(self):
        for place in range(4):
            for count, good in ((-1, False), (0, True), (9, True), (10, False)):
                with self.subTest(place=place, count=count):
                    people = [1, 1, 1, 1]
                    people[place] = count
                    self.assert_asked(good, people, [])

    def test_all_rooms_full(self):
        house = House([9, 9, 9, 9], [])
        self.assertEqual(house.total(), 36)

    def test_number_of_ways(self):
        self.assert_house([1], [])
        self.assert_house([1], [WAY] * 10)
        self.assert_refused([1], [WAY] * 11)

    def test_start_of_a_way(self):
        for rooms in range(1, 5):
            people = [1] * rooms
            with self.subTest(rooms=rooms):
                self.assert_refused(people, [(-1, 0, 1, 1)])
                self.assert_house(people, [(1, 0, 1, 1)])
                self.assert_house(people, [(rooms, 0, 1, 1)])
                self.assert_refused(people, [(rooms + 1, 0, 1, 1)])

    def test_no_way_begins_outside(self):
        self.assert_refused([1, 1], [(0, 1, 1, 1)])
        self.assert_refused([1, 1], [(0, 2, 1, 1)])
        self.assert_refused([1, 1], [(0, 0, 1, 1)])

    def test_end_of_a_way(self):
        for rooms in range(2, 5):
            people = [1] * rooms
            with self.subTest(rooms=rooms):
                self.assert_refused(people, [(1, -1, 1, 1)])
                self.assert_house(people, [(1, 0, 1, 1)])
                self.assert_house(people, [(2, 1, 1, 1)])
                self.assert_house(people, [(1, rooms, 1, 1)])
                self.assert_refused(people, [(1, rooms + 1, 1, 1)])
        self.assert_refused([1], [(1, 2, 1, 1)])

    def test_from_a_room_to_itself(self):
        for room in range(1, 5):
            with self.subTest(room=room):
                self.assert_refused([1, 1, 1, 1], [(room, room, 1, 1)])

    def test_width_of_a_way(self):
        for wide, good in ((-1, False), (0, False), (1, True), (9, True), (10, False)):
            with self.subTest(wide=wide):
                self.assert_asked(good, [1], [(1, 0, wide, 1)])

    def test_length_of_a_way(self):
        for length, good in ((-1, False), (0, False), (1, True), (6, True), (7, False)):
            with self.subTest(length=length):
                self.assert_asked(good, [1], [(1, 0, 1, length)])

    def test_width_and_length_have_bounds_of_their_own(self):
        self.assert_house([1], [(1, 0, 9, 6)])
        self.assert_refused([1], [(1, 0, 6, 9)])

    def test_a_bad_way_among_good_ones(self):
        for place in range(10):
            with self.subTest(place=place):
                ways = [WAY] * 10
                ways[place] = (1, 0, 2, 7)
                self.assert_refused([1], ways)

    def test_a_way_that_is_no_four_numbers(self):
        for way in ((), (1, 0, 2), (1, 0, 2, 1, 1), [1, 0, 2, 1], "1021", None, 1):
            with self.subTest(way=way):
                self.assert_refused([1], [way])

    def test_what_is_no_whole_number(self):
        for value in (True, False, None, "1", 1.0):
            with self.subTest(value=value):
                self.assert_refused([value], [])
                for place in range(4):
                    way = [1, 2, 1, 1]
                    way[place] = value
                    self.assert_refused([1, 1, 1, 1], [tuple(way)])

    def test_what_is_no_list(self):
        for value in (None, 1, (), (1,), "1"):
            with self.subTest(value=value):
                self.assert_refused(value, [])
                self.assert_refused([1], value)


class OwnLists(unittest.TestCase):
    def test_changing_what_was_handed_in_changes_nothing(self):
        people = [3, 0]
        ways = [(1, 0, 2, 1), (2, 1, 1, 1)]
        house = House(people, ways)
        people[0] = 9
        people.append(77)
        ways[0] = "no way"
        ways.pop()
        self.assertEqual(house.people(), [3, 0])
        self.assertEqual(house.ways(), [(1, 0, 2, 1), (2, 1, 1, 1)])
        self.assertEqual(house.total(), 3)

    def test_changing_what_is_told_changes_nothing(self):
        people = [3, 0]
        ways = [(1, 0, 2, 1), (2, 1, 1, 1)]
        house = House(people, ways)
        told_people = house.people()
        told_ways = house.ways()
        told_people[0] = 9
        told_people.append(77)
        told_ways[0] = "no way"
        told_ways.pop()
        self.assertEqual(house.people(), [3, 0])
        self.assertEqual(house.ways(), [(1, 0, 2, 1), (2, 1, 1, 1)])
        self.assertEqual(house.total(), 3)
        self.assertEqual((people, ways), ([3, 0], [(1, 0, 2, 1), (2, 1, 1, 1)]))

    def test_no_two_lists_are_one(self):
        people = [3]
        ways = [(1, 0, 2, 1)]
        house = House(people, ways)
        lists = [people, ways, house.people(), house.people(), house.ways(), house.ways()]
        self.assertEqual(len({id(told) for told in lists}), 6)

    def test_two_houses_of_the_same_lists(self):
        people = [3]
        ways = [(1, 0, 2, 1)]
        one = House(people, ways)
        people[0] = 4
        ways.append((1, 0, 1, 1))
        other = House(people, ways)
        self.assertEqual((one.people(), one.ways(), one.total()), ([3], [(1, 0, 2, 1)], 3))
        self.assertEqual((other.people(), other.ways(), other.total()), ([4], [(1, 0, 2, 1), (1, 0, 1, 1)], 4))

    def test_what_is_handed_in_stays_as_it_was(self):
        for people, ways in (([3, 0], [(2, 0, 2, 1), (1, 2, 1, 1)]), ([9, 0, 9], [])):
            with self.subTest(people=people, ways=ways):
                before = copy.deepcopy((people, ways))
                House(people, ways)
                self.assertEqual((people, ways), before)

    def test_what_is_refused_stays_as_it_was(self):
        refused = (
            ([], []),
            ([5, 4, 3, 2, 1], []),
            ([10, 1], [(2, 0, 1, 1), (1, 0, 1, 1)]),
            ([2, 1], [(2, 0, 1, 1), (1, 1, 1, 1)]),
            ([2, 1], [(2, 0, 1, 1), (1, 0, 10, 1)]),
            ([1], [WAY] * 11),
        )
        for people, ways in refused:
            with self.subTest(people=people, ways=ways):
                before = copy.deepcopy((people, ways))
                with self.assertRaises(BadHouse):
                    House(people, ways)
                self.assertEqual((people, ways), before)


if __name__ == "__main__":
    unittest.main()
