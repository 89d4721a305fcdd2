"""Walks out of a house, and plans of several walks."""

from emptyhall.errors import NoWalk
from emptyhall.house import OUTSIDE
from emptyhall.kinds import is_tuple_of, is_whole, is_within


def outside_at(house, walk):
    """Tell the minute at which one who walks so is outside."""
    check_beginning(house, walk)
    ways = house.ways()
    place = walk[0]
    arrived = 0
    for step in walk[1]:
        check_step(ways, step, place, arrived)
        way = ways[step[1]]
        place = way[1]
        arrived = step[0] + way[3]
    if place != OUTSIDE:
        raise NoWalk("the walk doesn't end outside")
    return arrived


def check_beginning(house, walk):
    """Refuse what is no room of the house with a list behind it."""
    if not is_tuple_of(walk, 2) or not isinstance(walk[1], list):
        raise NoWalk("a walk is a tuple of a room and a list of steps")
    if not is_within(walk[0], 1, len(house.people())):
        raise NoWalk("the walk's room is not there")


def check_step(ways, step, place, arrived):
    """Refuse a step that one who arrived at the place at that minute can't take."""
    if not is_tuple_of(step, 2) or not is_whole(step[0]):
        raise NoWalk("a step is a tuple of a minute and a way's number")
    # Asked ahead of any index, as Python would take a number below 0 from the list's end.
    if not is_within(step[1], 0, len(ways) - 1):
        raise NoWalk("a step's way is not there")
    if ways[step[1]][0] != place:
        raise NoWalk("a step's way doesn't begin where the walk has come to")
    if step[0] < arrived:
        raise NoWalk("a step's minute is too early")


def holds(house, walks, minutes):
    """Tell whether the plan holds for so many minutes."""
    # The counts read rooms and ways out of the walks, so that these must be walks out of the house first.
    return all_outside_by(house, walks, minutes) and people_suffice(house, walks) and widths_suffice(house, walks)


def all_outside_by(house, walks, minutes):
    """Tell whether each is a walk out of the house that is outside by that minute."""
    for walk in walks:
        try:
            minute = outside_at(house, walk)
        except NoWalk:
            return False
        if minute > minutes:
            return False
    return True


def people_suffice(house, walks):
    """Tell whether in no room more walks begin than there are people."""
    people = house.people()
    begun = counted([walk[0] for walk in walks])
    return all([count <= people[room - 1] for room, count in begun.items()])


def widths_suffice(house, walks):
    """Tell whether into no way more enter in a minute than its width."""
    ways = house.ways()
    steps = []
    for walk in walks:
        steps.extend(walk[1])
    entered = counted(steps)
    return all([count <= ways[step[1]][2] for step, count in entered.items()])


def counted(things):
    """Tell how often each thing stands in the list, as a dict."""
    counts = {}
    for thing in things:
        counts[thing] = counts.get(thing, 0) + 1
    return counts
