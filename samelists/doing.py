"""Does rows on the lists that names hold: `held` is a dict from names to cells."""

from samelists.cells import Cell
from samelists.errors import NoName, Stops
from samelists.programs import all_rows, rows_within
from samelists.rows import (
    Append, Assign, Binding, Clear, Copy, Extend, First, Full, Head, If, Join, Last, Let, New, Open, Pop,
    Prepend, Repeat, Same, Seal, Shift, Swap, Tail, Times, Turn,
)


def check_names(names, known):
    """Tells of the first one of these names that is none of those that are known."""
    for name in names:
        if name not in known:
            raise NoName(name)


def asked_end(cell, is_last, at):
    """The item at an end of a list; the row with the number `at` stops if there is none."""
    item = cell.end(is_last)
    if item is None:
        raise Stops(at)
    return item


def list_bound(held, row, at):
    """The list that the name of a row that binds it holds behind this row."""
    match row:
        case Let(other=other):
            return held[other]
        case New(parts=parts):
            return Cell(None, False, [held[part] for part in parts])
        case Seal(parts=parts):
            return Cell(None, True, [held[part] for part in parts])
        case Join(one=one, other=other):
            return held[one].joined(held[other])
        case Times(other=other, count=count):
            return held[other].times(count)
        case Copy(other=other):
            return held[other].copied()
        case First(other=other):
            return asked_end(held[other], False, at)
        case Last(other=other):
            return asked_end(held[other], True, at)


def change(held, row, at):
    """Does a row that changes an open list, and stops where the list is frozen."""
    cell = held[row.name]
    if cell.stays():
        raise Stops(at)
    match row:
        case Assign(other=other):
            cell.members = list(held[other].members)
        case Append(other=other):
            cell.members.append(held[other])
        case Prepend(other=other):
            cell.members.insert(0, held[other])
        case Clear():
            cell.members = []
        case Turn():
            cell.turn()
        case _:
            change_end(held, row, at)


def change_end(held, row, at):
    """Does a row that changes an end of an open list."""
    cell = held[row.name]
    match row:
        case Pop():
            asked_end(cell, True, at)
            cell.members.pop()
        case Shift():
            asked_end(cell, False, at)
            cell.members.pop(0)
        case Head(other=other):
            asked_end(cell, False, at)
            cell.members[0] = held[other]
        case Tail(other=other):
            asked_end(cell, True, at)
            cell.members[-1] = held[other]


def do_row(held, row, at):
    """Does a row that is no block; it has the number `at`."""
    match row:
        case Swap(name=name, other=other):
            held[name], held[other] = held[other], held[name]
        case Binding(name=name):
            held[name] = list_bound(held, row, at)
        case Extend(name=name, other=other):
            held[name] = held[name].extended(held[other])
        case Repeat(name=name, count=count):
            held[name] = held[name].repeated(count)
        case _:
            change(held, row, at)


def does_hold(held, test):
    """Whether the test of a block holds."""
    match test:
        case Same(one=one, other=other):
            return held[one] == held[other]
        case Open(name=name):
            return not held[name].stays()
        case Full(name=name):
            return held[name].has_items()


def do_block(held, block, at):
    """Does the rows of a block, or its other ones; it has the number `at`."""
    if does_hold(held, block.test):
        do_rows(held, block.rows, at + 1)
    else:
        do_rows(held, block.others, at + 1 + len(all_rows(block.rows)))


def do_rows(held, rows, first):
    """Does rows one after the other; the first one has the number `first`. Raises Stops."""
    at = first
    for row in rows:
        if isinstance(row, If):
            do_block(held, row, at)
        else:
            do_row(held, row, at)
        at = at + 1 + len(rows_within(row))
