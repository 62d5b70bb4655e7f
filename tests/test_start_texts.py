"""Point 19: the texts of starts."""

import itertools
import unittest

from samelists.errors import InvalidText
from samelists.starts import Start, starts

BAD_NUMBERS = ["", "00", "01", "007", "-0", "-1", "+1", "1.0", "a", "x", "1a", "0x1", "one", "1_0", "1,"]
BAD_NAMES = ["", "A", "aB", "abcde", "a1", "1", "-", "_", "name", "opens", "frozens", "opened", "frozen"]


def line_told(text):
    """The line that is told, or None."""
    try:
        Start.read(text)
    except InvalidText as error:
        return error.at
    return None


class GoodTextsTest(unittest.TestCase):
    def test_written(self):
        for start, text in [
            (Start({"a": 0}, [[]]), "a 0\nopened"),
            (Start({"a": 0}, [[0, 0]], [0]), "a 0\nfrozen 0 0"),
            (Start({"bb": 0, "a": 1}, [[1], [0, 2], []], [2]), "a 0\nbb 1\nopened 1 2\nopened 0\nfrozen"),
            (Start({"d": 3, "c": 2, "b": 1, "a": 0}, [[]] * 4), "a 0\nb 1\nc 2\nd 3\nopened\nopened\nopened\nopened"),
            (Start({"open": 0, "abcd": 0}, [[]]), "abcd 0\nopen 0\nopened"),
        ]:
            self.assertEqual(str(start), text)
            self.assertEqual(Start.read(text), start)
            self.assertEqual(Start.read(text=text), start)

    def test_written_and_read_again(self):
        for names, items in ((["a"], 3), (["ab", "b"], 2), (["x", "y", "z"], 1)):
            for start in starts(names, items):
                self.assertEqual(Start.read(str(start)), start)

    def test_names_in_any_order(self):
        told = Start({"a": 0, "b": 1, "c": 1}, [[1], [0, 0]], [1])
        for lines in itertools.permutations(["a 0", "b 1", "c 1"]):
            self.assertEqual(Start.read("\n".join([*lines, "opened 1", "frozen 0 0"])), told)

    def test_any_numbering(self):
        told = Start({"a": 0, "b": 1}, [[2], [0, 2], []], [1])
        self.assertEqual(Start.read("b 0\na 2\nfrozen 2 1\nopened\nopened 1"), told)
        self.assertEqual(str(Start.read("b 0\na 2\nfrozen 2 1\nopened\nopened 1")),
                         "a 0\nb 1\nopened 2\nfrozen 0 2\nopened")

    def test_lists_that_nobody_comes_to(self):
        self.assertEqual(str(Start.read("a 1\nfrozen 1\nopened 2\nfrozen\nopened 0 3")), "a 0\nopened 1\nfrozen")

    def test_twelve_lists(self):
        text = "a 11\n" + "\n".join([f"opened {(at + 1) % 12} 10" for at in range(12)])
        start = Start.read(text)
        self.assertEqual(len(start.lists), 12)
        self.assertEqual(len(start), 24)
        self.assertEqual(Start.read(str(start)), start)


class WrongFormsTest(unittest.TestCase):
    def test_empty(self):
        self.assertEqual(line_told(""), 0)
        self.assertEqual(line_told("\n"), 0)
        self.assertEqual(line_told("a 0\n\nopened"), 1)
        self.assertEqual(line_told("a 0\nopened\n"), 2)
        self.assertEqual(line_told("\na 0\nopened"), 0)

    def test_name_lines(self):
        for line in ["a", "a ", "a 0 0", "a  0", " a 0", "a 0 ", "a b", "a b 0", "0 a", "0", " ", "a0", "a:0", "a=0",
                     "a\t0"]:
            with self.subTest(line):
                self.assertEqual(line_told(f"{line}\nopened"), 0)
                self.assertEqual(line_told(f"b 0\n{line}\nopened"), 1)

    def test_names(self):
        for name in BAD_NAMES:
            if name != "name" and name not in ("opened", "frozen"):
                with self.subTest(name):
                    self.assertEqual(line_told(f"{name} 0\nopened"), 0)
                    self.assertEqual(line_told(f"x 0\n{name} 0\nopened"), 1)
        self.assertIsNone(line_told("name 0\nopened"))
        self.assertIsNone(line_told("open 0\nopened"))

    def test_numbers(self):
        for number in BAD_NUMBERS:
            with self.subTest(number):
                self.assertEqual(line_told(f"a {number}\nopened"), 0)
                self.assertEqual(line_told(f"b 0\na {number}\nopened"), 1)
                self.assertEqual(line_told(f"a 0\nopened {number}"), 1)
                self.assertEqual(line_told(f"a 0\nopened\nfrozen 0 {number}"), 2)
                self.assertEqual(line_told(f"a 0\nopened {number} 0\nopened"), 1)

    def test_a_name_that_occurred_before(self):
        self.assertEqual(line_told("a 0\na 0\nopened"), 1)
        self.assertEqual(line_told("a 0\nb 0\na 1\nopened\nopened"), 2)

    def test_a_name_line_behind_a_list_line(self):
        self.assertEqual(line_told("a 0\nopened\nb 0"), 2)
        self.assertEqual(line_told("opened\na 0"), 1)
        self.assertEqual(line_told("a 0\nfrozen\nopened\nb 0\nc 0"), 3)
        self.assertEqual(line_told("a 0\nopened\na 0"), 2)

    def test_a_fifth_name(self):
        self.assertIsNone(line_told("a 0\nb 0\nc 0\nd 0\nopened"))
        self.assertEqual(line_told("a 0\nb 0\nc 0\nd 0\ne 0\nopened"), 4)
        self.assertEqual(line_told("a 0\nb 0\nc 0\nd 0\ne 0\nf 0\nx"), 4)

    def test_list_lines(self):
        for line in ["open", "closed", "Opened", "FROZEN", "opened ", " opened", "opened  0", "opened 0 ", "frozen 0  0",
                     "frozen,", "opened a", "opened opened", "openedfrozen", "list 0 0", "opened 0,0", "0", "0 0"]:
            with self.subTest(line):
                self.assertEqual(line_told(f"a 0\nopened\n{line}"), 2)
                self.assertEqual(line_told(f"a 0\n{line}\nopened"), 1)
                self.assertEqual(line_told(f"a 0\nopened\n{line}\nx"), 2)

    def test_the_first_wrong_line_is_told(self):
        self.assertEqual(line_told("a 0\nopened 01\nx\n"), 1)
        self.assertEqual(line_told("a\na\n"), 0)


class WrongNumbersTest(unittest.TestCase):
    def test_no_name_line(self):
        self.assertEqual(line_told("opened"), 0)
        self.assertEqual(line_told("opened\nfrozen 0"), 0)
        self.assertEqual(line_told("opened\nfrozen 7"), 0)
        self.assertEqual(line_told("opened\nfrozen 07"), 1)

    def test_numbers_that_are_no_lists(self):
        self.assertEqual(line_told("a 0"), 0)
        self.assertEqual(line_told("a 1\nopened"), 0)
        self.assertEqual(line_told("a 0\nb 1\nopened"), 1)
        self.assertEqual(line_told("a 0\nopened 1"), 1)
        self.assertEqual(line_told("a 0\nopened\nopened 0 1 2"), 2)
        self.assertEqual(line_told("a 0\nopened 0 0 9 0\nopened 9"), 1)
        self.assertIsNone(line_told("a 0\nopened\nopened 0 1"))

    def test_the_first_line_is_told(self):
        self.assertEqual(line_told("a 5\nb 6\nopened 7"), 0)
        self.assertEqual(line_told("a 0\nb 6\nopened 7"), 1)

    def test_forms_come_ahead_of_numbers(self):
        self.assertEqual(line_told("a 5\nopened\nfrozen 00"), 2)
        self.assertEqual(line_told("a 5\nopened 7\n"), 2)
        self.assertEqual(line_told("a 5\nopened\na 0"), 2)

    def test_numbers_with_many_digits(self):
        self.assertEqual(line_told("a 0\nopened " + "9" * 1900), 1)
        self.assertEqual(line_told("a 0\nopened " + "9" * 9000), 1)
        self.assertEqual(line_told("a 0\nopened 1" + "0" * 1900), 1)
        self.assertEqual(line_told("a 0\nopened 0" + "0" * 1900), 1)
