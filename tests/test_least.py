"""Point 9: the least number of minutes by which all people can be outside."""

import inspect
import unittest

from drawing import any_houses, small_houses

from emptyhall.flows import least_minutes, out_by
from emptyhall.house import House, stuck


class Least(unittest.TestCase):
    def assert_least(self, people, ways, minutes):
        self.assertEqual(least_minutes(House(people, ways)), minutes)

    def test_one_way(self):
        self.assert_least([1], [(1, 0, 1, 1)], 1)
        self.assert_least([5], [(1, 0, 2, 1)], 3)
        self.assert_least([9], [(1, 0, 9, 1)], 1)
        self.assert_least([9], [(1, 0, 1, 6)], 14)

    def test_each_length(self):
        for long in range(1, 7):
            with self.subTest(long=long):
                self.assert_least([1], [(1, 0, 9, long)], long)

    def test_several_ways(self):
        self.assert_least([4], [(1, 0, 1, 1), (1, 0, 1, 3)], 3)
        self.assert_least([4, 3], [(1, 2, 9, 1), (2, 0, 2, 1)], 4)
        self.assert_least([9] * 4, [(room, 0, 9, 1) for room in (1, 2, 3, 4)], 1)

    def test_long_narrow_ways(self):
        chain = [(4, 3, 1, 6), (3, 2, 1, 6), (2, 1, 1, 6), (1, 0, 1, 6)]
        self.assert_least([0, 0, 0, 1], chain, 24)
        self.assert_least([0, 0, 0, 9], chain, 32)
        self.assert_least([9, 9, 9, 9], chain, 41)

    def test_nought_where_there_are_no_people(self):
        self.assert_least([0], [], 0)
        self.assert_least([0, 0, 0, 0], [], 0)
        self.assert_least([0, 0], [(1, 2, 1, 6), (2, 0, 1, 6)], 0)
        self.assert_least([0, 0], [(1, 2, 1, 6), (2, 1, 1, 6)], 0)

    def test_none_where_a_room_is_stuck(self):
        self.assert_least([1], [], None)
        self.assert_least([9, 1], [(1, 0, 1, 1)], None)
        self.assert_least([1, 1, 1], [(1, 2, 1, 1), (2, 1, 1, 1), (3, 0, 1, 1)], None)

    def test_a_room_without_people_may_be_shut(self):
        self.assert_least([2, 0], [(1, 0, 1, 1), (1, 2, 1, 1)], 2)

    def test_drawn_houses(self):
        told = []
        for house in any_houses(5, 150) + small_houses(17, 150):
            minutes = least_minutes(house)
            told.append(minutes)
            asked = (house.people(), house.ways())
            if stuck(house):
                self.assertIsNone(minutes, asked)
            elif house.total() == 0:
                self.assertEqual(minutes, 0, asked)
            else:
                self.assertIs(minutes.__class__, int)
                self.assertEqual(out_by(house, minutes), house.total(), asked)
                self.assertLess(out_by(house, minutes - 1), house.total(), asked)
            self.assertEqual((house.people(), house.ways()), asked)
        # Drawn as they are, the houses must hold all three cases.
        self.assertTrue(None in told and 0 in told and max(minutes or 0 for minutes in told) > 10)

    def test_name_of_the_interface(self):
        self.assertEqual(list(inspect.signature(least_minutes).parameters), ["house"])


if __name__ == "__main__":
    unittest.main()
