"""Papers: from which minute on each room counts, and how many can be outside at most for that."""

from emptyhall.errors import BadPaper
from emptyhall.house import OUTSIDE
from emptyhall.kinds import is_within


def bound(house, minutes, firsts):
    """Tell the bound of the paper for so many minutes."""
    check_paper(house, minutes, firsts)
    people = house.people()
    staying = [count for room, count in enumerate(people, start=1) if not counts_at(firsts, room, 0)]
    crossing = [way[2] * len(crossings(way, minutes, firsts)) for way in house.ways()]
    return sum(staying) + sum(crossing)


def check_paper(house, minutes, firsts):
    """Refuse what is no paper for so many minutes."""
    if not isinstance(firsts, list) or len(firsts) != len(house.people()):
        raise BadPaper("a paper has one entry for each room")
    for room, first in enumerate(firsts, start=1):
        if first is not None and not is_within(first, 0, minutes):
            raise BadPaper(f"room {room}: an entry is None or a minute from 0 to {minutes}")


def crossings(way, minutes, firsts):
    """Tell the minutes at which the way leads from where it counts to where it doesn't, and ends in time."""
    start = way[0]
    end = way[1]
    long = way[3]
    entries = [minute for minute in range(minutes - long + 1) if counts_at(firsts, start, minute)]
    return [minute for minute in entries if not counts_at(firsts, end, minute + long)]


def counts_at(firsts, place, minute):
    """Tell whether the room, or outside, counts at that minute."""
    # Asked first, as outside has no entry of its own and an index would find another room's.
    if place == OUTSIDE:
        return False
    first = firsts[place - 1]
    return first is not None and first <= minute
