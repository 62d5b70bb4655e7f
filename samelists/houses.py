"""Houses: heaps whose changes can be taken back, tried, and guarded against."""

from samelists.cells import held_at, start_of
from samelists.checks import ascending
from samelists.doing import check_names, do_row, does_hold
from samelists.errors import Guarded, InvalidRow, NoName
from samelists.programs import Program
from samelists.rows import If, Row


def changed_by_simple(held, row, guarded):
    """Does a row that is no block; returns the guarded names, but its own, whose lists it changes."""
    others = [name for name in guarded if name != row.name]
    cells = [held[name] for name in others]
    ahead = [list(cell.members) for cell in cells]
    # Whichever row of a house stops, it is told as row 0.
    do_row(held, row, 0)
    return [name for name, cell, items in zip(others, cells, ahead) if cell.members != items]


def changed_by(held, row, guarded):
    """Does any row; returns the guarded names whose lists are changed by rows of other names."""
    if not isinstance(row, If):
        return changed_by_simple(held, row, guarded)
    chosen = row.rows if does_hold(held, row.test) else row.others
    changed = []
    for part in chosen:
        changed.extend(changed_by(held, part, guarded))
    return changed


class Trial:
    """A block in which a house may be changed; behind it, the house is as it was ahead of it."""

    def __init__(self, house):
        self.house = house
        self.changes = ()
        self.guarded = ()

    def __enter__(self):
        self.changes = self.house.changes
        self.guarded = self.house.guarded
        return self.house

    def __exit__(self, kind, value, trace):
        house = self.house
        house.changes = self.changes
        house.guarded = self.guarded


class House:
    """Names and lists that begin as a start and are changed by rows."""

    def __init__(self, start):
        self.names = start.names
        self.guarded = ()
        self.first = start
        # Pairs of a row that was done and the start that it led to; such tuples never change.
        self.changes = ()

    def start(self):
        """The start that the house is now."""
        return self.changes[-1][1] if self.changes else self.first

    def program(self):
        """The rows that were done and not taken back."""
        return Program([row for row, _ in self.changes])

    def do(self, row):
        """Does a row; nothing is done where it stops or changes a guarded list by another name."""
        if not isinstance(row, Row):
            raise InvalidRow("row")
        check_names(row.names, self.names)
        held = held_at(self.start())
        changed = ascending(changed_by(held, row, self.guarded))
        if changed:
            raise Guarded(changed[0])
        self.changes = (*self.changes, (row, start_of(held)))

    def undo(self):
        """Takes the last row back that was done; returns whether there was one."""
        had_one = len(self.changes) > 0
        self.changes = self.changes[:-1]
        return had_one

    def check_name(self, name):
        """Tells of a name that is none of the house."""
        if name not in self.names:
            raise NoName(name)

    def guard(self, name):
        """From now on, the list of this name is changed only by rows of this name."""
        self.check_name(name)
        self.guarded = ascending([*self.guarded, name])

    def release(self, name):
        """From now on, the list of this name may be changed by all rows."""
        self.check_name(name)
        self.guarded = tuple([other for other in self.guarded if other != name])

    def trial(self):
        """A new context manager, whose value is the house, and behind which the house is as before."""
        return Trial(self)

    def within(self, work):
        """What `work` returns for the house; behind it the house is as before."""
        with Trial(self) as house:
            return work(house)

    def tried(self, rows):
        """The start that some rows lead to; nothing of them is done."""
        with Trial(self) as house:
            for row in rows:
                house.do(row)
            return house.start()

    def __len__(self):
        return len(self.changes)
