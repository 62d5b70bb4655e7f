"""Programs: rows one after the other."""

from samelists.checks import ascending, is_integer
from samelists.errors import InvalidRow, NoRow
from samelists.reading import read_rows
from samelists.rows import Asking, Full, If, Row, checked_rows


def rows_within(row):
    """The rows within a row, those within them too, in the order of their lines."""
    return all_rows(row.rows + row.others) if isinstance(row, If) else []


def all_rows(rows):
    """The rows and all rows within them, in the order of their lines."""
    return [part for row in rows for part in [row] + rows_within(row)]


def asks_of_row(row):
    """How often a run of this row can ask, at most."""
    if isinstance(row, If):
        most = max(int(asks_of(row.rows)), int(asks_of(row.others)))
        return most + 1 if isinstance(row.test, Full) else most
    return 1 if isinstance(row, Asking) else 0


def asks_of(rows):
    """How often a run of these rows can ask, at most."""
    return sum([asks_of_row(row) for row in rows])


def exchanged_within(row, at, places):
    """The row with the number `at`, with other rows in some places within it."""
    if not isinstance(row, If):
        return row
    first = at + 1
    behind = first + len(all_rows(row.rows))
    return If(row.test, exchanged(row.rows, first, places), exchanged(row.others, behind, places))


def exchanged(rows, first, places):
    """The rows, numbered from `first`, with the rows that `places` has for a number in its place."""
    made = []
    at = first
    for row in rows:
        if at in places:
            made.extend(places[at])
        else:
            made.append(exchanged_within(row, at, places))
        at = at + 1 + len(rows_within(row))
    return made


class Program:
    """Rows that are done one after the other."""

    def __init__(self, rows=()):
        self.rows = checked_rows(rows)
        self.names = ascending([name for row in self.rows for name in row.names])
        self.asks = asks_of(self.rows)
        self._numbered = tuple(all_rows(self.rows))

    @classmethod
    def read(cls, text):
        """The program of a text."""
        return cls(read_rows(text))

    def without(self, at, *more):
        """The program without the rows with these numbers."""
        numbers = (at, *more)
        for number in numbers:
            self.check_number(number)
        return Program(exchanged(self.rows, 0, {number: [] for number in numbers}))

    def replaced(self, at, row):
        """The program with another row in the place of the one with this number."""
        self.check_number(at)
        if not isinstance(row, Row):
            raise InvalidRow("row")
        return Program(exchanged(self.rows, 0, {at: [row]}))

    def is_part_of(self, other):
        """Whether the rows are some of the rows of the other program, in the same order."""
        met = 0
        for row in other.rows:
            if met < len(self.rows) and self.rows[met] == row:
                met = met + 1
        return met == len(self.rows)

    def check_number(self, at):
        """Tells of a number that is none of a row."""
        if not 0 <= at < len(self._numbered):
            raise NoRow(at)

    def __len__(self):
        return len(self._numbered)

    def __getitem__(self, at):
        self.check_number(at)
        return self._numbered[at]

    def __iter__(self):
        # Else Python would count the numbers up, and fail with NoRow behind the last one.
        raise TypeError("a program is not iterated over; its rows are")

    def __add__(self, other):
        if not isinstance(other, Program):
            return NotImplemented
        return Program(self.rows + other.rows)

    def __mul__(self, other):
        if not is_integer(other):
            return NotImplemented
        return Program(self.rows * other)

    def __rmul__(self, other):
        return self * other

    def __eq__(self, other):
        return isinstance(other, Program) and self.rows == other.rows

    def __str__(self):
        return "\n".join([str(row) for row in self.rows])
