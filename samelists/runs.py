"""Runs of programs, and their outcomes."""

from samelists.cells import all_met, cells_of, items_of, numbers_of
from samelists.checks import ascending
from samelists.doing import check_names, do_rows
from samelists.errors import Stops


def renumbered(rows, known):
    """The rows with new lists numbered anew, as they are met; so many lists are of the start."""
    numbers = {}
    for number in [number for row in rows for number in row if number >= known]:
        numbers.setdefault(number, known + len(numbers))
    return [tuple([numbers.get(number, number) for number in row]) for row in rows]


class Outcome:
    """What a run leaves: whether it stopped, who holds which list, and what is in the lists.

    So many of the lists are `known` from the start; the others are new.
    """

    def __init__(self, at, names, holders, lists, frozen, known):
        self.stopped = at is not None
        self.at = at
        self.names = names
        self.holders = holders
        self.lists = lists
        self.frozen = frozen
        self._known = known
        self._told = (self.stopped, names, holders, lists, frozen)

    def seen(self, names):
        """What these names see: whether the run stopped, and the items of their lists."""
        check_names(names, self.names)
        holders = dict(zip(self.names, self.holders))
        rows = renumbered([self.lists[holders[name]] for name in ascending(names)], self._known)
        return (self.stopped, *rows)

    def __eq__(self, other):
        return isinstance(other, Outcome) and self._told == other._told


def stop_of(held, rows):
    """Does the rows; returns the number of the one that stops, or None."""
    try:
        do_rows(held, rows, 0)
    except Stops as e:
        return e.at
    return None


def outcome_of(program, names, holders, cells):
    """The outcome of a run on these cells, which are the lists of the start by their numbers."""
    held = {name: cells[number] for name, number in zip(names, holders)}
    at = stop_of(held, program.rows)
    order = all_met(cells, [held[name] for name in names])
    numbers = numbers_of(order)
    return Outcome(
        at, names, tuple([numbers[held[name]] for name in names]),
        tuple([items_of(cell, numbers) for cell in order]), tuple([cell.frozen for cell in order]), len(cells))


def run(program, start):
    """The outcome of the run of a program from a start."""
    check_names(program.names, start.names)
    return outcome_of(program, start.names, start.holders, cells_of(start))
