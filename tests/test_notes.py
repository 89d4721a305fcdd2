"""Point 10: how a house is written, that it is read to the same house, and which texts are refused."""

import inspect
import re
import unittest

from drawing import any_houses, small_houses

from emptyhall.errors import NoText
from emptyhall.house import House
from emptyhall.notes import read, shown

# Every sign that a text can have.
SIGNS = ["\t", "\n"] + [chr(code) for code in range(ord(" "), ord("~") + 1) if chr(code) != "%"]


def writes_a_house(text):
    """Whether the text writes a house, found without the program."""
    form = re.fullmatch(r"people((?: [0-9]){1,4})((?:\nway [1-4] [0-4] [1-9] [1-6]){0,10})", text)
    if form is None:
        return False
    rooms = len(form.group(1)) // 2
    ends = [(int(line[4]), int(line[6])) for line in text.split("\n")[1:]]
    return all(start != end and max(start, end) <= rooms for start, end in ends)


class Written(unittest.TestCase):
    def assert_written(self, people, ways, text):
        self.assertEqual(shown(House(people, ways)), text)
        house = read(text)
        self.assertIs(house.__class__, House)
        self.assertEqual((house.people(), house.ways()), (people, ways))

    def test_without_ways(self):
        self.assert_written([3], [], "people 3")
        self.assert_written([3, 0], [], "people 3 0")
        self.assert_written([9, 0, 1, 2], [], "people 9 0 1 2")

    def test_with_ways(self):
        self.assert_written([3, 0], [(1, 0, 2, 1)], "people 3 0\nway 1 0 2 1")
        self.assert_written([0], [(1, 0, 9, 6), (1, 0, 1, 1)], "people 0\nway 1 0 9 6\nway 1 0 1 1")
        ways = [(4, 3, 1, 6), (1, 2, 9, 1), (3, 0, 5, 2)]
        self.assert_written([1, 2, 3, 4], ways, "people 1 2 3 4\nway 4 3 1 6\nway 1 2 9 1\nway 3 0 5 2")

    def test_ways_alike_and_ten_ways(self):
        self.assert_written([1], [(1, 0, 1, 1)] * 2, "people 1\nway 1 0 1 1\nway 1 0 1 1")
        self.assert_written([9], [(1, 0, 9, 6)] * 10, "people 9" + "\nway 1 0 9 6" * 10)

    def test_read_of_what_is_shown_is_the_same_house(self):
        for house in any_houses(2, 200) + small_houses(2, 100):
            text = shown(house)
            again = read(text)
            self.assertTrue(writes_a_house(text), text)
            self.assertEqual((again.people(), again.ways()), (house.people(), house.ways()))
            self.assertEqual(again.total(), house.total())
            self.assertEqual(shown(again), text)

    def test_names_of_the_interface(self):
        self.assertEqual(list(inspect.signature(shown).parameters), ["house"])
        self.assertEqual(list(inspect.signature(read).parameters), ["text"])

    def test_what_is_told_and_handed_in_stays_as_it_was(self):
        house = House([3, 0], [(1, 0, 2, 1)])
        shown(house)
        self.assertEqual((house.people(), house.ways()), ([3, 0], [(1, 0, 2, 1)]))
        text = shown(house)
        one = read(text)
        other = read(text)
        one.people().clear()
        one.ways().clear()
        self.assertIsNot(one, other)
        for told in (one, other):
            self.assertEqual((told.people(), told.ways()), ([3, 0], [(1, 0, 2, 1)]))


class Refused(unittest.TestCase):
    def assert_refused(self, *texts):
        for text in texts:
            with self.subTest(text=text):
                with self.assertRaises(NoText) as refusal:
                    read(text)
                self.assertIs(refusal.exception.__class__, NoText)

    def test_empty_texts(self):
        self.assert_refused("", " ", "  ", "\n", "\n\n", "\t")

    def test_a_blank_too_many(self):
        self.assert_refused(" people 3 0", "people  3 0", "people 3  0", "people 3 0 ")
        self.assert_refused("people 3 0 \nway 1 0 2 1", "people 3 0\n way 1 0 2 1", "people 3 0\nway  1 0 2 1")
        self.assert_refused("people 3 0\nway 1  0 2 1", "people 3 0\nway 1 0 2 1 ", "people 3 0\n ")

    def test_a_blank_too_few(self):
        self.assert_refused("people3 0", "people3", "people 30", "people 3 0\nway1 0 2 1", "people 3 0\nway 10 2 1")
        self.assert_refused("people 3 0way 1 0 2 1", "people 3 0 way 1 0 2 1")

    def test_a_line_end_too_many(self):
        self.assert_refused("people 3 0\n", "\npeople 3 0", "people 3\n0", "people\n3 0", "people 3 0\n\n")
        self.assert_refused("people 3 0\nway 1 0 2 1\n", "people 3 0\n\nway 1 0 2 1", "people 3 0\nway\n1 0 2 1")

    def test_a_line_end_too_few(self):
        self.assert_refused("people 3 0\nway 1 0 2 1way 1 0 2 1", "people 3 0\nway 1 0 2 1 way 1 0 2 1")

    def test_a_tab(self):
        self.assert_refused("people\t3 0", "people 3\t0", "people 3 0\t", "\tpeople 3 0", "people \t3 0")
        self.assert_refused("people 3 0\nway 1 0 2\t1", "people 3 0\nway 1 0 2 1\t", "people 3 0\nway 1 0 2 \t1")

    def test_a_wrong_word(self):
        self.assert_refused("people", "peopl 3 0", "People 3 0", "PEOPLE 3 0", "peoples 3 0", "way 3 0", "3 0", " 3 0")
        self.assert_refused("people 3 0\nWay 1 0 2 1", "people 3 0\nways 1 0 2 1", "people 3 0\npeople 1 0 2 1")
        self.assert_refused("people 3 0\n1 0 2 1", "people 3 0\n 1 0 2 1", "way 3 0\nway 1 0 2 1", "people x", "way")
        self.assert_refused("people people 3 0", "people 3 0\nway way 1 0 2 1", "people 3 0\nway", "people 3 0\nx")

    def test_a_number_with_a_sign(self):
        self.assert_refused("people +3 0", "people 3 -0", "people -3 0", "people 3 +0", "people 3 0\nway +1 0 2 1")
        self.assert_refused("people 3 0\nway 1 -0 2 1", "people 3 0\nway 1 0 +2 1", "people 3 0\nway 1 0 2 +1")

    def test_a_leading_nought(self):
        self.assert_refused("people 03 0", "people 3 00", "people 003 0", "people 3 0\nway 01 0 2 1")
        self.assert_refused("people 3 0\nway 1 00 2 1", "people 3 0\nway 1 0 02 1", "people 3 0\nway 1 0 2 01")

    def test_an_underscore(self):
        self.assert_refused("people 0_3 0", "people 3 0_0", "people _3 0", "people 3_ 0", "people_3 0")
        self.assert_refused("people 3 0\nway 1 0 0_2 1", "people 3 0\nway_1 0 2 1")

    def test_numbers_of_another_form(self):
        self.assert_refused("people 3.0 0", "people 3e0 0", "people 0x3 0", "people three", "people 3, 0", "people 3;0")
        self.assert_refused("people " + "9" * 290, "people 3 0\nway 1 0 2 " + "1" * 280, "people " + "1" * 6000)

    def test_a_number_too_many_or_too_few(self):
        self.assert_refused("people", "people 1 2 3 4 5", "people 1 2 3 4 5 6")
        self.assert_refused("people 3 0\nway 1 0 2", "people 3 0\nway 1 0 2 1 1", "people 3 0\nway 1")

    def test_lines_in_another_order(self):
        self.assert_refused("way 1 0 2 1\npeople 3 0", "way 1 0 2 1", "way 1 0 2 1\npeople 3 0\nway 1 0 2 1")
        self.assert_refused("way 1 0 2 1\npeople 1 0 2 1")

    def test_the_line_of_the_people_twice(self):
        self.assert_refused("people 3 0\npeople 3 0", "people 3 0\nway 1 0 2 1\npeople 3 0")
        self.assert_refused("people 1 0 2 1\npeople 1 0 2 1", "people 1 0 2 1\nway 1 0 2 1\npeople 1 0 2 1")

    def test_what_is_no_house(self):
        self.assert_refused("people 10", "people 3 10", "people 99", "people 1 2 3 4 5")
        self.assert_refused("people 3 0\nway 1 1 2 1", "people 3 0\nway 0 1 2 1", "people 3 0\nway 3 0 2 1")
        self.assert_refused("people 3 0\nway 1 3 2 1", "people 3\nway 1 2 2 1", "people 3\nway 2 0 2 1")
        self.assert_refused("people 3 0\nway 1 0 0 1", "people 3 0\nway 1 0 10 1", "people 3 0\nway 1 0 2 0")
        self.assert_refused("people 3 0\nway 1 0 2 7", "people 3" + "\nway 1 0 2 1" * 11)

    def test_texts_that_differ_by_one_sign(self):
        for text in ("people 3", "people 3 0\nway 1 0 2 1", "people 0 9 1\nway 3 0 1 6\nway 1 2 9 1"):
            others = []
            for place in range(len(text) + 1):
                others.append(text[:place] + text[place + 1:])
                others.extend(text[:place] + sign + text[place:] for sign in SIGNS)
                others.extend(text[:place] + sign + text[place + 1:] for sign in SIGNS)
            for other in others:
                self.assert_read_just_where_a_house(other)

    def assert_read_just_where_a_house(self, text):
        if writes_a_house(text):
            self.assertEqual(shown(read(text)), text)
        else:
            with self.assertRaises(NoText, msg=text):
                read(text)


if __name__ == "__main__":
    unittest.main()
