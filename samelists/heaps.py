"""Heaps: names and lists that are changed step by step."""

from samelists.cells import Cell, held_at, start_of
from samelists.checks import is_integer
from samelists.doing import check_names, do_rows
from samelists.errors import Frozen, NoItem, NoName


class Held:
    """Stands for a list of a heap."""

    def __init__(self, cell):
        self.cell = cell
        self.is_frozen = cell.frozen

    def check_open(self):
        """Tells of a frozen list."""
        if self.is_frozen:
            raise Frozen()

    def check_index(self, at):
        """Tells of an index that is none; any integer may be asked."""
        if not -len(self) <= at < len(self):
            raise NoItem()

    def append(self, other):
        """Puts a list behind all items."""
        self.check_open()
        self.cell.members.append(other.cell)

    def insert(self, at, other):
        """Puts a list ahead of the item with this index, or at an end where it is beyond."""
        self.check_open()
        # Python's lists refuse indexes that are very far away.
        place = max(0, at + len(self)) if at < 0 else min(at, len(self))
        self.cell.members.insert(place, other.cell)

    def pop(self, at=-1):
        """Takes the item with this index away, and returns it."""
        self.check_open()
        self.check_index(at)
        return Held(self.cell.members.pop(at))

    def clear(self):
        """Takes all items away."""
        self.check_open()
        self.cell.members.clear()

    def reverse(self):
        """Puts the items into reverse order."""
        self.check_open()
        self.cell.turn()

    def assign(self, other):
        """Puts the items of the other list in the place of all items."""
        self.check_open()
        self.cell.members[:] = list(other.cell.members)

    def copied(self):
        """A new open list with the items; a frozen list itself."""
        return Held(self.cell.copied())

    def __len__(self):
        return len(self.cell.members)

    def __getitem__(self, at):
        self.check_index(at)
        return Held(self.cell.members[at])

    def __setitem__(self, at, worth):
        self.check_open()
        self.check_index(at)
        self.cell.members[at] = worth.cell

    def __iter__(self):
        # Else Python would count the indexes up, and fail with NoItem behind the last one.
        raise TypeError("a list of a heap is not iterated over; its items are asked by index")

    def __contains__(self, x):
        return isinstance(x, Held) and x.cell in self.cell.members

    def __add__(self, other):
        if not isinstance(other, Held):
            return NotImplemented
        return Held(self.cell.joined(other.cell))

    def __mul__(self, other):
        if not is_integer(other):
            return NotImplemented
        return Held(self.cell.times(other))

    def __rmul__(self, other):
        return self * other

    def __iadd__(self, other):
        if not isinstance(other, Held):
            return NotImplemented
        return Held(self.cell.extended(other.cell))

    def __imul__(self, other):
        if not is_integer(other):
            return NotImplemented
        return Held(self.cell.repeated(other))

    def __eq__(self, other):
        return isinstance(other, Held) and self.cell == other.cell


class Heap:
    """Names that hold lists, which are changed in place, beginning as a start."""

    def __init__(self, start):
        self.names = start.names
        self._held = held_at(start)

    def opened(self, *held):
        """A new open list with these items."""
        return Held(Cell(None, False, [one.cell for one in held]))

    def sealed(self, *held):
        """A new frozen list with these items."""
        return Held(Cell(None, True, [one.cell for one in held]))

    def start(self):
        """The start that the heap is now."""
        return start_of(self._held)

    def run(self, program):
        """Does the rows of a program; what was done ahead of a row that stops stays done."""
        check_names(program.names, self.names)
        do_rows(self._held, program.rows, 0)

    def check_name(self, name):
        """Tells of a name that is none of the heap."""
        if name not in self.names:
            raise NoName(name)

    def __getitem__(self, at):
        self.check_name(at)
        return Held(self._held[at])

    def __setitem__(self, at, worth):
        self.check_name(at)
        self._held[at] = worth.cell

    def __iter__(self):
        # Else Python would ask for 0, 1, .. as if these were names.
        raise TypeError("a heap is not iterated over; its names are")
