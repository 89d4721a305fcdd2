"""Point 3: which rooms are stuck."""

import inspect
import itertools
import unittest

from emptyhall.house import House, stuck


def gets_out(room, ways, seen):
    """The answer told another way: look on from the room itself, through rooms not yet seen."""
    if room == 0:
        return True
    return any(gets_out(way[1], ways, seen + [room]) for way in ways if way[0] == room and way[1] not in seen)


class Stuck(unittest.TestCase):
    def assert_stuck(self, people, ways, rooms):
        self.assertEqual(stuck(House(people, ways)), rooms)

    def test_a_room_without_ways(self):
        self.assert_stuck([1], [], [1])
        self.assert_stuck([2, 3], [(1, 0, 1, 1)], [2])

    def test_a_way_into_a_room_is_none_out_of_it(self):
        self.assert_stuck([2, 3], [(1, 0, 1, 1), (1, 2, 1, 1)], [2])

    def test_a_room_that_leads_outside(self):
        self.assert_stuck([1], [(1, 0, 1, 1)], [])

    def test_rooms_whose_ways_lead_in_a_circle(self):
        circle = [(1, 2, 1, 1), (2, 3, 1, 1), (3, 1, 1, 1)]
        self.assert_stuck([1, 1, 1, 1], circle + [(4, 0, 1, 1)], [1, 2, 3])
        self.assert_stuck([1, 1, 1, 1], circle + [(4, 1, 1, 1)], [1, 2, 3, 4])
        self.assert_stuck([1, 1, 1, 1], circle + [(2, 4, 1, 1), (4, 0, 1, 1)], [])

    def test_a_room_that_leads_outside_through_others(self):
        chain = [(1, 2, 1, 1), (2, 3, 1, 1), (3, 4, 1, 1), (4, 0, 1, 1)]
        for order in itertools.permutations(chain):
            self.assert_stuck([1, 1, 1, 1], list(order), [])
        self.assert_stuck([1, 1, 1, 1], chain[:3], [1, 2, 3, 4])
        self.assert_stuck([1, 1, 1, 1], chain[:1] + chain[2:], [1, 2])

    def test_through_a_room_without_people(self):
        self.assert_stuck([1, 0], [(1, 2, 1, 1), (2, 0, 1, 1)], [])

    def test_a_room_without_people_is_never_stuck(self):
        self.assert_stuck([0], [], [])
        self.assert_stuck([0, 1, 0, 1], [], [2, 4])
        self.assert_stuck([0, 1], [(1, 2, 1, 1), (2, 1, 1, 1)], [2])

    def test_one_among_the_people_is_enough(self):
        self.assert_stuck([1, 9], [], [1, 2])

    def test_rising_order(self):
        self.assert_stuck([1, 1, 1, 1], [(4, 3, 1, 1), (3, 1, 1, 1), (2, 0, 1, 1)], [1, 3, 4])
        self.assert_stuck([9, 1, 5, 2], [], [1, 2, 3, 4])

    def test_width_and_length_do_not_matter(self):
        self.assert_stuck([9], [(1, 0, 1, 6)], [])
        self.assert_stuck([9], [(1, 0, 9, 1)], [])

    def test_every_house_of_three_rooms(self):
        ends = [(start, end) for start in (1, 2, 3) for end in (0, 1, 2, 3) if start != end]
        for chosen in itertools.product((False, True), repeat=len(ends)):
            ways = [(start, end, 1, 1) for (start, end), there in zip(ends, chosen) if there]
            for people in ([1, 1, 1], [0, 2, 1]):
                rooms = [room for room in (1, 2, 3) if people[room - 1] and not gets_out(room, ways, [])]
                self.assert_stuck(people, ways, rooms)

    def test_the_list_is_the_askers_own(self):
        house = House([1, 1], [])
        told = stuck(house)
        told.append(7)
        told[0] = 5
        self.assertEqual(stuck(house), [1, 2])
        self.assertIsNot(stuck(house), stuck(house))
        self.assertEqual((house.people(), house.ways()), ([1, 1], []))

    def test_name_of_the_interface(self):
        self.assertEqual(list(inspect.signature(stuck).parameters), ["house"])


if __name__ == "__main__":
    unittest.main()
