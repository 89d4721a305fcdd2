"""Houses as texts."""

from emptyhall.errors import BadHouse, NoText
from emptyhall.house import House


def shown(house):
    """Write the house."""
    lines = [line_of("people", house.people())]
    lines.extend([line_of("way", way) for way in house.ways()])
    return "\n".join(lines)


def line_of(word, numbers):
    """Write a line: the word and the numbers, each behind a blank."""
    return " ".join([word] + [str(number) for number in numbers])


def read(text):
    """Read the house that the text writes."""
    rows = [numbers_of(line) for line in text.split("\n")]
    house = house_of(rows[0], [tuple(row) for row in rows[1:]])
    # The words were passed by, and Python reads more numbers than are written (+3, 03, 1_0): all of that shows here.
    if shown(house) != text:
        raise NoText("a house is not written so")
    return house


def numbers_of(line):
    """Read the numbers behind the first word of a line."""
    return [number_of(word) for word in line.split(" ")[1:]]


def number_of(word):
    """Read a number."""
    try:
        return int(word)
    except ValueError:
        raise NoText("a number is not written so") from None


def house_of(people, ways):
    """Make the house, and refuse what is none as a text."""
    try:
        return House(people, ways)
    except BadHouse:
        raise NoText("the text writes what is no house") from None
