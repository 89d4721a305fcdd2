"""How many can be outside by a minute, a plan for them, and a paper that shows that no more can.

A spot is a tuple `(room, minute)`. One after another is sent outside from spot to spot, where one who was sent earlier
may be turned elsewhere for it, until no more can be sent.
"""

from emptyhall.house import MOST_LONG, OUTSIDE, stuck

# The minute at which somebody is outside matters no more, so that all come to one spot there.
OUTSIDE_SPOT = (0, 0)


class Lane:
    """A wait in a room from one minute to the next, or a way that is entered at a minute."""

    def __init__(self, source, goal, wide, entry):
        self.source = source
        self.goal = goal
        self.wide = wide
        # The step of a walk that goes by this lane, None for a wait.
        self.entry = entry
        self.used = 0


class Net:
    """All lanes of a house in so many minutes, how many go by each, and how many are left in each room."""

    def __init__(self, house, minutes):
        self.left = house.people()
        self.leaving = {}
        self.arriving = {}
        self.lay_waits(house, minutes)
        self.lay_ways(house, minutes)

    def lay_waits(self, house, minutes):
        """Lay the lanes of those who wait."""
        # Wider than all people, so that a wait is never full.
        wide = house.total() + 1
        for room in range(1, len(house.people()) + 1):
            for minute in range(minutes):
                self.lay(Lane((room, minute), (room, minute + 1), wide, None))

    def lay_ways(self, house, minutes):
        """Lay the lanes of those who enter a way that ends in time."""
        for number, way in enumerate(house.ways()):
            for minute in range(minutes - way[3] + 1):
                goal = spot_of(way[1], minute + way[3])
                self.lay(Lane((way[0], minute), goal, way[2], (minute, number)))

    def lay(self, lane):
        """Lay one lane between its spots."""
        self.leaving.setdefault(lane.source, []).append(lane)
        self.arriving.setdefault(lane.goal, []).append(lane)


def spot_of(place, minute):
    """Tell the spot of one who is in the room, or outside, at that minute."""
    return OUTSIDE_SPOT if place == OUTSIDE else (place, minute)


def moves(net, spot):
    """Tell where one more could go from the spot: each a spot, a lane, and how the lane's use changes by it."""
    ahead = [(lane.goal, lane, 1) for lane in net.leaving.get(spot, []) if lane.used < lane.wide]
    # One more at a used lane's end takes the place of one who came by it, and who turns elsewhere at its beginning.
    instead = [(lane.source, lane, -1) for lane in net.arriving.get(spot, []) if lane.used > 0]
    return ahead + instead


def reached(net):
    """Tell the spots that one more could come to, each with the move that led to it; no further once outside."""
    queue = [(room, 0) for room, left in enumerate(net.left, start=1) if left > 0]
    found = dict([(spot, None) for spot in queue])
    turn = 0
    while turn < len(queue) and OUTSIDE_SPOT not in found:
        spot = queue[turn]
        for goal, lane, change in moves(net, spot):
            if goal not in found:
                found[goal] = (spot, lane, change)
                queue.append(goal)
        turn += 1
    return found


def send_one(net, found):
    """Send one more outside by the moves that were found."""
    spot = OUTSIDE_SPOT
    while found[spot] is not None:
        move = found[spot]
        lane = move[1]
        lane.used += move[2]
        spot = move[0]
    net.left[spot[0] - 1] -= 1


def filled(house, minutes):
    """Tell the net by which as many go outside as can."""
    net = Net(house, minutes)
    found = reached(net)
    while OUTSIDE_SPOT in found:
        send_one(net, found)
        found = reached(net)
    return net


def out_by(house, minutes):
    """Tell how many can be outside by that minute."""
    return house.total() - sum(filled(house, minutes).left)


def plan_by(house, minutes):
    """Tell a plan that holds for so many minutes with as many walks as can be."""
    net = filled(house, minutes)
    walks = []
    for room, count in enumerate(house.people(), start=1):
        for turn in range(count - net.left[room - 1]):
            walks.append((room, taken_steps(net, room)))
    return walks


def taken_steps(net, room):
    """Take one who began in the room out of the net, and tell the steps."""
    steps = []
    spot = (room, 0)
    while spot != OUTSIDE_SPOT:
        # As many leave each spot as come to it, so that one who comes finds a used lane.
        used = [lane for lane in net.leaving[spot] if lane.used > 0]
        lane = used[0]
        lane.used -= 1
        if lane.entry is not None:
            steps.append(lane.entry)
        spot = lane.goal
    return steps


def paper(house, minutes):
    """Tell a paper for so many minutes whose bound is as many as can be outside by then."""
    # A room counts once one more could come to it: whoever goes on from there to what doesn't count goes by a full way.
    found = reached(filled(house, minutes))
    return [first_found(found, room, minutes) for room in range(1, len(house.people()) + 1)]


def first_found(found, room, minutes):
    """Tell the first minute at which the room is among the spots that were found, or None."""
    return min([minute for minute in range(minutes + 1) if (room, minute) in found], default=None)


def least_minutes(house):
    """Tell the least number of minutes by which all can be outside, or None where a room is stuck."""
    if len(stuck(house)) > 0:
        return None
    least = 0
    # Enough in any case: one a minute follows another by rows of ways that pass no room twice.
    most = len(house.people()) * MOST_LONG + house.total()
    while least < most:
        middle = (least + most) // 2
        if out_by(house, middle) == house.total():
            most = middle
        else:
            least = middle + 1
    return least
