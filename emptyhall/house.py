"""Houses: rooms with people, and ways from room to room or outside."""

from emptyhall.errors import BadHouse
from emptyhall.kinds import is_tuple_of, is_within

OUTSIDE = 0
MOST_ROOMS = 4
MOST_PEOPLE = 9
MOST_WAYS = 10
MOST_WIDE = 9
MOST_LONG = 6


class House:
    """People in rooms that are numbered from 1, and ways `(start, end, wide, long)`."""

    def __init__(self, people, ways):
        check_people(people)
        check_ways(ways, len(people))
        # Tuples, so that no list that is handed in or told is ever the house's own.
        self.counts = tuple(people)
        self.passages = tuple(ways)

    def people(self):
        """Tell how many people are in each room."""
        return list(self.counts)

    def ways(self):
        """Tell the ways, in the order of their numbers."""
        return list(self.passages)

    def total(self):
        """Tell how many people there are."""
        return sum(self.counts)


def check_people(people):
    """Refuse what is no list of the people of each room."""
    if not isinstance(people, list) or not 1 <= len(people) <= MOST_ROOMS:
        raise BadHouse(f"a house has 1 to {MOST_ROOMS} rooms")
    for room, count in enumerate(people, start=1):
        if not is_within(count, 0, MOST_PEOPLE):
            raise BadHouse(f"room {room}: in a room are 0 to {MOST_PEOPLE} people")


def check_ways(ways, rooms):
    """Refuse what is no list of ways in a house with so many rooms."""
    if not isinstance(ways, list) or len(ways) > MOST_WAYS:
        raise BadHouse(f"a house has 0 to {MOST_WAYS} ways")
    for number, way in enumerate(ways):
        if not is_tuple_of(way, 4):
            raise BadHouse(f"way {number}: a way is a tuple of four numbers")
        check_ends(number, way[0], way[1], rooms)
        if not is_within(way[2], 1, MOST_WIDE):
            raise BadHouse(f"way {number}: a way is wide 1 to {MOST_WIDE}")
        if not is_within(way[3], 1, MOST_LONG):
            raise BadHouse(f"way {number}: a way is long 1 to {MOST_LONG}")


def check_ends(number, start, end, rooms):
    """Refuse a way that doesn't lead from a room to another one or outside."""
    if not is_within(start, 1, rooms):
        raise BadHouse(f"way {number}: a way begins in a room")
    if not is_within(end, OUTSIDE, rooms):
        raise BadHouse(f"way {number}: a way ends in a room or outside")
    if start == end:
        raise BadHouse(f"way {number}: a way ends elsewhere than it begins")


def stuck(house):
    """Tell the rooms with people from which no row of ways leads outside."""
    leading = places_leading_out(house)
    return [room for room, count in enumerate(house.people(), start=1) if count > 0 and room not in leading]


def places_leading_out(house):
    """Tell, as a dict of True, outside itself and each room from which a row of ways leads there."""
    leading = {OUTSIDE: True}
    known = 0
    # A room found late may be the end of a way that was passed by, so all ways are asked until none adds a room.
    while known < len(leading):
        known = len(leading)
        for start, end, wide, long in house.ways():
            if end in leading:
                leading[start] = True
    return leading
