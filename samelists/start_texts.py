"""Reads the texts of starts."""

from samelists.checks import is_name
from samelists.errors import InvalidText

DIGITS = "0123456789"
LIST_WORDS = ("opened", "frozen")
MOST_NAMES = 4


def is_number(word):
    """Whether a word is a number in decimal digits without leading zeros."""
    if word == "" or not all([digit in DIGITS for digit in word]):
        return False
    return word == "0" or word[0] != "0"


def is_name_line(words, names):
    """Whether these are the words of a line of a further name, behind the lines of these names."""
    if len(words) != 2 or len(names) == MOST_NAMES:
        return False
    return is_name(words[0]) and words[0] not in names and is_number(words[1])


def is_list_line(words):
    """Whether these are the words of a line of a list."""
    return words[0] in LIST_WORDS and all([is_number(word) for word in words[1:]])


def names_ahead(lines):
    """The names of the name lines, in their order; tells of the first line of a wrong form."""
    names = []
    for at, words in enumerate(lines):
        is_behind_list = at > len(names)
        if not is_behind_list and is_name_line(words, names):
            names.append(words[0])
        elif not is_list_line(words):
            raise InvalidText(at)
    return names


def check_numbers(lines, numbers):
    """Tells of the first line with a number that is none of these."""
    for at, words in enumerate(lines):
        if not all([word in numbers for word in words[1:]]):
            raise InvalidText(at)


def read_start(text):
    """The holders, the lists and the frozen lists of the text of a start."""
    lines = [line.split(" ") for line in text.split("\n")]
    names = names_ahead(lines)
    if not names:
        raise InvalidText(0)
    rows = lines[len(names):]
    # Words are looked up, not computed: a number may have more digits than Python computes.
    numbers = {str(number): number for number in range(len(rows))}
    check_numbers(lines, numbers)
    holders = {words[0]: numbers[words[1]] for words in lines[:len(names)]}
    lists = [[numbers[word] for word in words[1:]] for words in rows]
    frozen = [number for number, words in enumerate(rows) if words[0] == "frozen"]
    return holders, lists, frozen
