"""Reads the texts of programs."""

from samelists.errors import InvalidRow, InvalidText
from samelists.rows import (
    Append, Assign, Clear, Copy, Extend, First, Full, Head, If, Join, Last, Let, New, Open, Pop, Prepend,
    Repeat, Same, Seal, Shift, Swap, Tail, Times, Turn,
)

BINDING_ARGUMENTS = {"let": 2, "swap": 2, "join": 3, "times": 3, "copy": 2, "first": 2, "last": 2}
CHANGE_ARGUMENTS = {
    "extend": 2, "repeat": 2, "assign": 2, "append": 2, "prepend": 2, "clear": 1, "turn": 1,
    "pop": 1, "shift": 1, "head": 2, "tail": 2,
}
TEST_ARGUMENTS = {"same": 2, "open": 1, "full": 1}
COUNTS = {"0": 0, "1": 1, "2": 2, "3": 3}


class Block:
    """The rows read so far of an `if` that is not ended, or of the whole program (without a test)."""

    def __init__(self, test):
        self.test = test
        self.rows = []
        self.others = []
        self.has_else = False

    def take(self, row):
        """Puts a row behind those that were read."""
        if self.has_else:
            self.others.append(row)
        else:
            self.rows.append(row)


def new_binding(word, args):
    """The row of a line that binds."""
    match word:
        case "let":
            return Let(*args)
        case "swap":
            return Swap(*args)
        case "new":
            return New(*args)
        case "seal":
            return Seal(*args)
        case "join":
            return Join(*args)
        case "times":
            return Times(args[0], args[1], COUNTS.get(args[2]))
        case "copy":
            return Copy(*args)
        case "first":
            return First(*args)
        case "last":
            return Last(*args)


def new_change(word, args):
    """The row of a line that changes a list."""
    match word:
        case "extend":
            return Extend(*args)
        case "repeat":
            return Repeat(args[0], COUNTS.get(args[1]))
        case "assign":
            return Assign(*args)
        case "append":
            return Append(*args)
        case "prepend":
            return Prepend(*args)
        case "clear":
            return Clear(*args)
        case "turn":
            return Turn(*args)
        case "pop":
            return Pop(*args)
        case "shift":
            return Shift(*args)
        case "head":
            return Head(*args)
        case "tail":
            return Tail(*args)


def new_test(word, args):
    """The test of an `if`."""
    match word:
        case "same":
            return Same(*args)
        case "open":
            return Open(*args)
        case "full":
            return Full(*args)


def is_binding(word, args):
    """Whether this is a word of a row that binds, with as many arguments as it takes."""
    if word in ("new", "seal"):
        return len(args) > 0
    return BINDING_ARGUMENTS.get(word) == len(args)


def read_row(line, at):
    """The row of a line that is no part of an `if`."""
    words = line.split(" ")
    word = words[0]
    args = words[1:]
    try:
        if is_binding(word, args):
            return new_binding(word, args)
        if CHANGE_ARGUMENTS.get(word) == len(args):
            return new_change(word, args)
    except InvalidRow:
        raise InvalidText(at) from None
    raise InvalidText(at)


def read_test(line, at):
    """The test of a line that begins with `if `."""
    words = line.split(" ")
    word = words[1]
    args = words[2:]
    try:
        if TEST_ARGUMENTS.get(word) == len(args):
            return new_test(word, args)
    except InvalidRow:
        raise InvalidText(at) from None
    raise InvalidText(at)


def begin_others(blocks, at):
    """Does an `else` line."""
    if len(blocks) == 1 or blocks[-1].has_else:
        raise InvalidText(at)
    blocks[-1].has_else = True


def end_block(blocks, at):
    """Does an `end` line: the block is a row of the block around it."""
    if len(blocks) == 1:
        raise InvalidText(at)
    block = blocks.pop()
    blocks[-1].take(If(block.test, block.rows, block.others))


def read_line(blocks, line, at):
    """Does one line; the blocks are those that are not ended, the innermost one last."""
    if line.startswith("if "):
        blocks.append(Block(read_test(line, at)))
    elif line == "else":
        begin_others(blocks, at)
    elif line == "end":
        end_block(blocks, at)
    else:
        blocks[-1].take(read_row(line, at))


def read_rows(text):
    """The rows of the text of a program."""
    # Splitting the empty text would give one line, which is no line of a row.
    lines = text.split("\n") if text else []
    blocks = [Block(None)]
    for at, line in enumerate(lines):
        read_line(blocks, line, at)
    if len(blocks) > 1:
        raise InvalidText(len(lines))
    return blocks[0].rows
