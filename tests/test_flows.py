"""Points 7 and 8, and point 6 for what is told: how many can be outside, a plan for them, and a paper to bound it."""

import functools
import inspect
import itertools
import unittest

from drawing import any_houses, small_houses

from emptyhall.flows import out_by, paper, plan_by
from emptyhall.house import House
from emptyhall.papers import bound
from emptyhall.walks import holds, outside_at

CHAIN = [(4, 3, 1, 6), (3, 2, 1, 6), (2, 1, 1, 6), (1, 0, 1, 6)]


def choices(ways, inside, time):
    """Each list of how many enter each way now, of those that end in time."""
    ranges = [range(min(way[2], inside[way[0] - 1]) + 1) if way[3] <= time else range(1) for way in ways]
    for numbers in itertools.product(*ranges):
        gone = [sum(n for n, way in zip(numbers, ways) if way[0] == room + 1) for room in range(len(inside))]
        if all(number <= count for number, count in zip(gone, inside)):
            yield numbers, tuple(count - number for count, number in zip(inside, gone))


def slow_out_by(people, ways, minutes):
    """The greatest number, by trying all that people can do minute by minute."""

    @functools.lru_cache(maxsize=None)
    def best(time, inside, coming):
        # Time is what is left; coming tells who is on a way: the time left at its end, and the place.
        outside = sum(1 for end, place in coming if end == time and place == 0)
        inside = tuple(
            count + sum(1 for end, place in coming if end == time and place == room)
            for room, count in enumerate(inside, start=1)
        )
        rest = [walker for walker in coming if walker[0] != time]
        if time == 0:
            return outside
        most = 0
        for numbers, staying in choices(ways, inside, time):
            entered = [(time - way[3], way[1]) for n, way in zip(numbers, ways) for one in range(n)]
            most = max(most, best(time - 1, staying, tuple(sorted(rest + entered))))
        return outside + most

    return best(minutes, tuple(people), ())


def least_bound(house, minutes):
    """The least bound of all papers."""
    entries = [None] + list(range(minutes + 1))
    papers = itertools.product(entries, repeat=len(house.people()))
    return min(bound(house, minutes, list(firsts)) for firsts in papers)


class Asked(unittest.TestCase):
    def assert_told(self, house, minutes):
        """The three answers fit together, and the house stays as it was."""
        before = (house.people(), house.ways())
        number = out_by(house, minutes)
        walks = plan_by(house, minutes)
        firsts = paper(house, minutes)
        asked = (before, minutes)
        self.assertIs(number.__class__, int, asked)
        self.assertIs(walks.__class__, list, asked)
        self.assertIs(firsts.__class__, list, asked)
        self.assertEqual(len(walks), number, asked)
        self.assertIs(holds(house, walks, minutes), True, asked)
        self.assertEqual(bound(house, minutes, firsts), number, asked)
        self.assertEqual((house.people(), house.ways()), before)
        return number

    def assert_number(self, people, ways, minutes, number):
        self.assertEqual(self.assert_told(House(people, ways), minutes), number, (people, ways, minutes))


class ByHand(Asked):
    def test_one_way(self):
        for minutes, number in ((0, 0), (1, 2), (2, 4), (3, 5), (4, 5), (60, 5)):
            self.assert_number([5], [(1, 0, 2, 1)], minutes, number)

    def test_nobody_is_outside_ahead_of_a_ways_length(self):
        for long in range(1, 7):
            self.assert_number([5], [(1, 0, 3, long)], long - 1, 0)
            self.assert_number([5], [(1, 0, 3, long)], long, 3)
            self.assert_number([5], [(1, 0, 3, long)], long + 1, 5)

    def test_nobody_is_outside_at_minute_nought(self):
        self.assert_number([9] * 4, [(room, 0, 9, 1) for room in (1, 2, 3, 4)], 0, 0)

    def test_no_people_and_no_ways(self):
        for minutes in (0, 1, 60):
            self.assert_number([0], [], minutes, 0)
            self.assert_number([0, 0], [(1, 0, 9, 1), (2, 1, 9, 1)], minutes, 0)
            self.assert_number([3, 9], [], minutes, 0)

    def test_ways_alike_and_ways_of_two_lengths(self):
        self.assert_number([9], [(1, 0, 1, 1), (1, 0, 1, 1)], 2, 4)
        # By way 0 at the minutes 0 to 3, by way 1 at minute 0 and 1.
        self.assert_number([9], [(1, 0, 1, 1), (1, 0, 1, 3)], 4, 6)

    def test_through_another_room(self):
        ways = [(1, 2, 3, 2), (2, 0, 1, 1)]
        for minutes, number in ((2, 0), (3, 1), (4, 2), (6, 4), (7, 4)):
            self.assert_number([4, 0], ways, minutes, number)

    def test_two_rooms_share_a_way(self):
        ways = [(1, 2, 9, 1), (2, 0, 2, 1)]
        for minutes, number in ((1, 2), (2, 4), (3, 6), (4, 7)):
            self.assert_number([4, 3], ways, minutes, number)

    def test_a_stuck_room_stays(self):
        self.assert_number([4, 3], [(1, 0, 9, 1), (1, 2, 9, 1)], 60, 4)

    def test_one_who_was_sent_is_turned_elsewhere(self):
        # Room 1 has two ways out, room 2 can only use the one that room 1 would take first.
        ways = [(1, 3, 1, 1), (2, 3, 1, 1), (3, 0, 1, 1), (1, 4, 1, 1), (4, 0, 1, 1)]
        for order in itertools.permutations(ways):
            self.assert_number([1, 1, 0, 0], list(order), 2, 2)

    def test_a_wait_for_a_shorter_way(self):
        # At minute 5 the second of room 1 is outside by waiting; the long way would end at minute 6.
        self.assert_number([2], [(1, 0, 1, 4), (1, 0, 1, 6)], 5, 2)

    def test_a_way_round_in_a_circle_helps_nobody(self):
        self.assert_number([2, 2], [(1, 2, 9, 1), (2, 1, 9, 1), (1, 0, 1, 1)], 3, 3)

    def test_chain_of_long_narrow_ways(self):
        self.assert_number([0, 0, 0, 9], CHAIN, 23, 0)
        self.assert_number([0, 0, 0, 9], CHAIN, 24, 1)
        self.assert_number([0, 0, 0, 9], CHAIN, 31, 8)
        self.assert_number([0, 0, 0, 9], CHAIN, 32, 9)
        self.assert_number([9] * 4, CHAIN, 40, 35)
        self.assert_number([9] * 4, CHAIN, 41, 36)
        self.assert_number([9] * 4, CHAIN, 60, 36)

    def test_everything_at_its_bounds(self):
        wide = [(room, 0, 9, 6) for room in (1, 2, 3, 4)]
        circle = [(1, 2, 9, 6), (2, 3, 9, 6), (3, 4, 9, 6), (4, 1, 9, 6), (1, 3, 9, 6), (2, 4, 9, 6)]
        for minutes, number in ((5, 0), (6, 36), (60, 36)):
            self.assert_number([9] * 4, wide + circle, minutes, number)
        self.assert_number([9] * 4, circle + CHAIN, 60, 36)
        self.assert_number([9], [(1, 0, 1, 6)] * 10, 6, 9)
        # Room 1 is empty at once; all others are in it at minute 6, and nine of them leave in each minute from then on.
        star = [(4, 1, 9, 6), (3, 1, 9, 6), (2, 1, 9, 6), (1, 0, 9, 6)]
        for minutes, number in ((6, 9), (11, 9), (12, 18), (13, 27), (14, 36)):
            self.assert_number([9] * 4, star, minutes, number)

    def test_somewhat_more_minutes_are_not_refused(self):
        for minutes in (61, 75):
            self.assert_number([9] * 4, CHAIN, minutes, 36)

    def test_names_of_the_interface(self):
        for told in (out_by, plan_by, paper):
            self.assertEqual(list(inspect.signature(told).parameters), ["house", "minutes"])


class Compared(Asked):
    def test_every_house_of_two_rooms_and_two_small_ways(self):
        ends = ((1, 0), (1, 2), (2, 0), (2, 1))
        small = [(start, end, wide, long) for start, end in ends for wide in (1, 2) for long in (1, 2)]
        for count in (0, 1, 2):
            for ways in itertools.combinations_with_replacement(small, count):
                for people in ([1, 0], [2, 1], [3, 2]):
                    for minutes in (0, 1, 2, 3, 4):
                        self.assert_number(people, list(ways), minutes, slow_out_by(people, ways, minutes))

    def test_drawn_small_houses_against_the_slow_count_and_all_papers(self):
        numbers = []
        for house in small_houses(3, 60):
            for minutes in range(6):
                number = self.assert_told(house, minutes)
                numbers.append(number)
                asked = (house.people(), house.ways(), minutes)
                self.assertEqual(number, slow_out_by(house.people(), tuple(house.ways()), minutes), asked)
                self.assertEqual(number, least_bound(house, minutes), asked)
        # Drawn as they are, the houses must not be all empty or all shut.
        self.assertGreaterEqual(max(numbers), 4)

    def test_drawn_houses_of_any_size(self):
        for house in any_houses(7, 90):
            numbers = [self.assert_told(house, minutes) for minutes in (0, 1, 2, 3, 5, 8, 13, 21, 34, 59, 60)]
            self.assertEqual(numbers, sorted(numbers))
            self.assertEqual(numbers[0], 0)

    def test_every_minute_of_some_houses(self):
        for house in any_houses(23, 8):
            for minutes in range(61):
                self.assert_told(house, minutes)


class OwnAnswers(unittest.TestCase):
    HOUSES = (
        ([9], [(1, 0, 9, 1)]),
        ([3, 4], [(1, 2, 9, 1), (2, 0, 9, 1), (2, 0, 1, 1)]),
        ([9] * 4, CHAIN + [(room, 0, 9, 2) for room in (1, 2, 3, 4)]),
    )

    def test_no_two_lists_of_a_plan_are_one(self):
        for people, ways in self.HOUSES:
            house = House(people, ways)
            first = plan_by(house, 20)
            again = plan_by(house, 20)
            lists = [first, again] + [walk[1] for walk in first + again]
            self.assertEqual(len(first), house.total())
            self.assertEqual(len({id(told) for told in lists}), 2 + 2 * house.total())

    def test_a_changed_walk_changes_no_other_and_nothing_told_next(self):
        for people, ways in self.HOUSES:
            house = House(people, ways)
            before = plan_by(house, 20)
            told = plan_by(house, 20)
            self.assertEqual(told, before)
            for place in range(len(told)):
                told[place][1].append("more")
                told[place][1][0] = "other"
                self.assertEqual(told[place + 1:], before[place + 1:])
            told.clear()
            self.assertEqual(plan_by(house, 20), before)
            self.assertEqual((house.people(), house.ways()), (people, ways))
            self.assertEqual(out_by(house, 20), house.total())

    def test_a_changed_paper_changes_nothing_told_next(self):
        house = House([9, 3], [(1, 0, 1, 1), (2, 1, 2, 2)])
        before = paper(house, 4)
        told = paper(house, 4)
        self.assertEqual(told, before)
        self.assertIsNot(told, before)
        told[0] = 77
        told.append(1)
        self.assertEqual(paper(house, 4), before)
        self.assertEqual(bound(house, 4, before), out_by(house, 4))

    def test_the_house_hangs_on_nothing_that_is_changed_later(self):
        people = [5]
        ways = [(1, 0, 2, 1)]
        house = House(people, ways)
        people[0] = 1
        ways.clear()
        self.assertEqual((out_by(house, 2), len(plan_by(house, 2)), bound(house, 2, paper(house, 2))), (4, 4, 4))

    def test_one_question_changes_no_other(self):
        house = House([5, 2], [(1, 0, 2, 1), (2, 1, 1, 1)])
        alone = [out_by(House([5, 2], [(1, 0, 2, 1), (2, 1, 1, 1)]), minutes) for minutes in range(8)]
        for minutes in (7, 0, 3, 5, 1, 3, 6, 2, 4):
            plan_by(house, minutes)
            paper(house, minutes)
            self.assertEqual(out_by(house, minutes), alone[minutes])

    def test_each_told_walk_is_one_out_of_the_house(self):
        for house in any_houses(41, 20):
            for room, steps in plan_by(house, 30):
                self.assertIs(steps.__class__, list)
                self.assertTrue(all(step.__class__ is tuple and len(step) == 2 for step in steps))
                self.assertLessEqual(outside_at(house, (room, steps)), 30)


if __name__ == "__main__":
    unittest.main()
