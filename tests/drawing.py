"""Houses for the tests, drawn by a fixed rule, so that each run asks the same ones."""

from emptyhall.house import House


class Drawing:
    """Numbers that follow from one first number."""

    def __init__(self, first):
        self.state = first

    def number(self, least, most):
        self.state = (self.state * 1103515245 + 12345) % 2147483648
        return least + (self.state >> 12) % (most - least + 1)

    def way(self, rooms, wide, long):
        start = self.number(1, rooms)
        ends = [place for place in range(rooms + 1) if place != start]
        end = ends[self.number(0, len(ends) - 1)]
        return (start, end, self.number(1, wide), self.number(1, long))

    def house(self, rooms, people, ways, wide, long):
        """A house with at most so much of each."""
        count = self.number(1, rooms)
        inside = [self.number(0, people) for room in range(count)]
        return House(inside, [self.way(count, wide, long) for way in range(self.number(0, ways))])


def small_houses(first, count):
    """Houses small enough for a slow count over all that people can do."""
    drawing = Drawing(first)
    return [drawing.house(3, 2, 4, 2, 3) for turn in range(count)]


def any_houses(first, count):
    """Houses of any size."""
    drawing = Drawing(first)
    return [drawing.house(4, 9, 10, (1, 3, 9)[turn % 3], 6) for turn in range(count)]
