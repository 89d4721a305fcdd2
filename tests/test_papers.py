"""Point 8: what a paper is, what its bound is, and what is refused as none."""

import copy
import inspect
import itertools
import unittest

from drawing import small_houses

from emptyhall.errors import BadPaper
from emptyhall.house import House
from emptyhall.papers import bound


def counts(firsts, place, minute):
    return place != 0 and firsts[place - 1] is not None and minute >= firsts[place - 1]


def slow_bound(people, ways, minutes, firsts):
    """The bound word for word, way by way and minute by minute."""
    whole = 0
    for room, count in enumerate(people, start=1):
        if not counts(firsts, room, 0):
            whole += count
    for start, end, wide, long in ways:
        for minute in range(minutes + 1):
            in_time = minute + long <= minutes
            if in_time and counts(firsts, start, minute) and not counts(firsts, end, minute + long):
                whole += wide
    return whole


class ByHand(unittest.TestCase):
    def assert_bound(self, people, ways, minutes, firsts, number):
        told = bound(House(people, ways), minutes, firsts)
        self.assertEqual(told, number)
        self.assertIs(told.__class__, int)

    def test_no_room_counts(self):
        self.assert_bound([3], [(1, 0, 2, 1)], 5, [None], 3)
        self.assert_bound([3, 0, 9, 1], [(1, 0, 2, 1), (3, 4, 9, 6)], 60, [None] * 4, 13)

    def test_a_room_that_counts_from_minute_nought_on(self):
        # Entered at the minutes 0 to 4.
        self.assert_bound([3], [(1, 0, 2, 1)], 5, [0], 10)
        self.assert_bound([0], [(1, 0, 2, 1)], 5, [0], 10)

    def test_a_room_that_counts_later_keeps_its_people(self):
        # Entered at the minutes 1 to 4.
        self.assert_bound([3], [(1, 0, 2, 1)], 5, [1], 3 + 8)
        self.assert_bound([3], [(1, 0, 2, 1)], 5, [4], 3 + 2)

    def test_a_room_that_counts_from_the_last_minute_on(self):
        self.assert_bound([3], [(1, 0, 2, 1)], 5, [5], 3)
        self.assert_bound([3], [(1, 0, 2, 1)], 60, [60], 3)
        self.assert_bound([3], [(1, 0, 2, 1)], 60, [59], 3 + 2)

    def test_no_minutes_at_all(self):
        self.assert_bound([3], [(1, 0, 2, 1)], 0, [0], 0)
        self.assert_bound([3], [(1, 0, 2, 1)], 0, [None], 3)
        self.assert_bound([3, 4], [(1, 0, 2, 1)], 0, [0, None], 4)

    def test_a_way_that_ends_just_in_time_and_one_minute_too_late(self):
        for long in range(1, 7):
            with self.subTest(long=long):
                self.assert_bound([0], [(1, 0, 7, long)], long, [0], 7)
                self.assert_bound([0], [(1, 0, 7, long)], long - 1, [0], 0)
                self.assert_bound([0], [(1, 0, 7, long)], 20, [20 - long], 7)
                self.assert_bound([0], [(1, 0, 7, long)], 20, [21 - long], 0)

    def test_a_way_to_a_room_that_never_counts(self):
        # From room 1 into room 2 at the minutes 0 to 3.
        self.assert_bound([5, 0], [(1, 2, 3, 2)], 5, [0, None], 12)

    def test_a_way_to_a_room_that_counts_later(self):
        # It ends at the minutes 2, 3, 4, 5, and room 2 counts from one of them on.
        self.assert_bound([5, 0], [(1, 2, 3, 2)], 5, [0, 5], 9)
        self.assert_bound([5, 0], [(1, 2, 3, 2)], 5, [0, 4], 6)
        self.assert_bound([5, 0], [(1, 2, 3, 2)], 5, [0, 3], 3)
        self.assert_bound([5, 0], [(1, 2, 3, 2)], 5, [0, 2], 0)
        self.assert_bound([5, 0], [(1, 2, 3, 2)], 5, [0, 1], 0)
        self.assert_bound([5, 0], [(1, 2, 3, 2)], 5, [0, 0], 0)

    def test_a_way_from_a_room_that_never_counts(self):
        self.assert_bound([0, 0], [(1, 2, 3, 2), (1, 0, 3, 1)], 5, [None, 0], 0)
        self.assert_bound([4, 5], [(1, 2, 3, 2), (1, 0, 3, 1)], 5, [None, 0], 4)

    def test_outside_never_counts_whatever_the_last_room_does(self):
        self.assert_bound([0, 0], [(1, 0, 1, 1)], 3, [0, 0], 3)
        self.assert_bound([0, 0], [(1, 0, 1, 1)], 3, [0, None], 3)

    def test_ways_alike_are_each_summed(self):
        self.assert_bound([9], [(1, 0, 1, 1)] * 10, 2, [0], 20)

    def test_several_rooms(self):
        people = [4, 2, 1]
        ways = [(1, 2, 2, 1), (2, 0, 1, 2), (3, 1, 5, 1), (3, 0, 1, 3)]
        # The two of room 2; way 0 at minute 0, way 1 at minute 2, way 2 never, way 3 at the minutes 0 and 1.
        self.assert_bound(people, ways, 4, [0, 2, 0], 2 + 2 + 1 + 2)
        self.assert_bound(people, ways, 4, [None, None, 0], 6 + 5 * 4 + 2)
        self.assert_bound(people, ways, 4, [0, 0, None], 1 + 3)

    def test_everything_at_its_bounds(self):
        house = House([9] * 4, [(4, 0, 9, 6)] * 10)
        self.assertEqual(bound(house, 60, [0] * 4), 90 * 55)
        self.assertEqual(bound(house, 60, [None] * 4), 36)
        self.assertEqual(bound(house, 60, [60] * 4), 36)
        self.assertEqual(bound(house, 60, [0, 0, 0, 54]), 9 + 90)

    def test_somewhat_more_minutes_are_not_refused(self):
        self.assert_bound([3], [(1, 0, 2, 1)], 70, [65], 3 + 10)

    def test_every_paper_of_small_houses(self):
        for house in small_houses(11, 40):
            people = house.people()
            ways = house.ways()
            for minutes in (0, 1, 3):
                for firsts in itertools.product([None] + list(range(minutes + 1)), repeat=len(people)):
                    told = bound(house, minutes, list(firsts))
                    self.assertEqual(told, slow_bound(people, ways, minutes, firsts), (people, ways, minutes, firsts))

    def test_name_of_the_interface(self):
        self.assertEqual(list(inspect.signature(bound).parameters), ["house", "minutes", "firsts"])
        self.assertEqual(bound(house=House([1], []), minutes=2, firsts=[None]), 1)


class NoPapers(unittest.TestCase):
    def assert_refused(self, rooms, minutes, firsts):
        with self.assertRaises(BadPaper):
            bound(House([1] * rooms, [(1, 0, 1, 1)]), minutes, firsts)

    def test_too_few_and_too_many_entries(self):
        for rooms in range(1, 5):
            for size in range(7):
                for entry in (0, None, 3):
                    with self.subTest(rooms=rooms, size=size, entry=entry):
                        if size == rooms:
                            bound(House([1] * rooms, []), 3, [entry] * size)
                        else:
                            self.assert_refused(rooms, 3, [entry] * size)

    def test_a_minute_below_nought(self):
        for minutes in (0, 5, 60):
            for minute in (-1, -2, -60):
                with self.subTest(minutes=minutes, minute=minute):
                    self.assert_refused(1, minutes, [minute])

    def test_a_minute_above_the_minutes(self):
        for minutes in (0, 1, 5, 60):
            with self.subTest(minutes=minutes):
                bound(House([1], []), minutes, [minutes])
                self.assert_refused(1, minutes, [minutes + 1])
                self.assert_refused(1, minutes, [minutes + 40])

    def test_a_bad_entry_at_each_place(self):
        for place in range(4):
            for entry in (-1, 6):
                for others in (0, 5, None):
                    with self.subTest(place=place, entry=entry, others=others):
                        firsts = [others] * 4
                        firsts[place] = entry
                        self.assert_refused(4, 5, firsts)


class OwnPapers(unittest.TestCase):
    def test_what_is_handed_in_stays_as_it_was(self):
        people = [4, 2]
        ways = [(1, 2, 2, 1), (2, 0, 1, 2)]
        house = House(people, ways)
        for firsts in ([0, None], [None, None], [3, 0], [2, 1]):
            with self.subTest(firsts=firsts):
                before = copy.deepcopy(firsts)
                bound(house, 5, firsts)
                self.assertEqual(firsts, before)
                self.assertEqual((house.people(), house.ways()), (people, ways))

    def test_what_is_refused_stays_as_it_was(self):
        house = House([4, 2], [(1, 2, 2, 1), (2, 0, 1, 2)])
        for firsts in ([], [0], [3, None, 1], [6, 0], [0, -1]):
            with self.subTest(firsts=firsts):
                before = copy.deepcopy(firsts)
                with self.assertRaises(BadPaper):
                    bound(house, 5, firsts)
                self.assertEqual(firsts, before)
                self.assertEqual((house.people(), house.ways()), ([4, 2], [(1, 2, 2, 1), (2, 0, 1, 2)]))

    def test_a_paper_may_be_changed_later(self):
        house = House([3], [(1, 0, 2, 1)])
        firsts = [0]
        self.assertEqual(bound(house, 5, firsts), 10)
        firsts[0] = None
        self.assertEqual(bound(house, 5, firsts), 3)
        firsts.append(None)
        with self.assertRaises(BadPaper):
            bound(house, 5, firsts)
        self.assertEqual(bound(house, 5, [0]), 10)


if __name__ == "__main__":
    unittest.main()
