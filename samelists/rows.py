"""The rows of programs, and the tests of blocks."""

from samelists.checks import ascending, checked_count, checked_names, checked_parts
from samelists.errors import InvalidRow


class Row:
    """All rows; each tells its names, ascending."""


class Binding(Row):
    """The rows that only bind a name to a list."""


class Change(Row):
    """The rows that change a list in place, if it is open."""


class Asking(Row):
    """The rows that ask which item stands at an end of a list."""


class Test:
    """What a block asks to choose its rows; each test tells its names, ascending."""


def checked_rows(rows):
    """The tuple of these rows, which may be any value."""
    if not isinstance(rows, (list, tuple)) or not all([isinstance(row, Row) for row in rows]):
        raise InvalidRow("row")
    return tuple(rows)


class Same(Test):
    """Both names hold one list."""

    def __init__(self, one, other):
        self.names = checked_names(one, other)
        self.one = one
        self.other = other

    def __eq__(self, other):
        return isinstance(other, Same) and self.one == other.one and self.other == other.other

    def __str__(self):
        return f"same {self.one} {self.other}"


class Open(Test):
    """The list is open."""

    def __init__(self, name):
        self.names = checked_names(name)
        self.name = name

    def __eq__(self, other):
        return isinstance(other, Open) and self.name == other.name

    def __str__(self):
        return f"open {self.name}"


class Full(Test):
    """The list has items."""

    def __init__(self, name):
        self.names = checked_names(name)
        self.name = name

    def __eq__(self, other):
        return isinstance(other, Full) and self.name == other.name

    def __str__(self):
        return f"full {self.name}"


class Let(Binding):
    """x = y"""

    def __init__(self, name, other):
        self.names = checked_names(name, other)
        self.name = name
        self.other = other

    def __eq__(self, other):
        return isinstance(other, Let) and self.name == other.name and self.other == other.other

    def __str__(self):
        return f"let {self.name} {self.other}"


class Swap(Binding):
    """x, y = y, x"""

    def __init__(self, name, other):
        self.names = checked_names(name, other)
        self.name = name
        self.other = other

    def __eq__(self, other):
        return isinstance(other, Swap) and self.name == other.name and self.other == other.other

    def __str__(self):
        return f"swap {self.name} {self.other}"


class New(Binding):
    """x = [y, z, ..]"""

    def __init__(self, name, *parts):
        self.names = checked_names(name, *parts)
        self.name = name
        self.parts = checked_parts(parts)

    def __eq__(self, other):
        return isinstance(other, New) and self.name == other.name and self.parts == other.parts

    def __str__(self):
        return " ".join(["new", self.name, *self.parts])


class Seal(Binding):
    """x = (y, z, ..)"""

    def __init__(self, name, *parts):
        self.names = checked_names(name, *parts)
        self.name = name
        self.parts = checked_parts(parts)

    def __eq__(self, other):
        return isinstance(other, Seal) and self.name == other.name and self.parts == other.parts

    def __str__(self):
        return " ".join(["seal", self.name, *self.parts])


class Join(Binding):
    """x = y + z"""

    def __init__(self, name, one, other):
        self.names = checked_names(name, one, other)
        self.name = name
        self.one = one
        self.other = other

    def __eq__(self, other):
        return (isinstance(other, Join) and self.name == other.name
                and self.one == other.one and self.other == other.other)

    def __str__(self):
        return f"join {self.name} {self.one} {self.other}"


class Times(Binding):
    """x = y * count"""

    def __init__(self, name, other, count):
        self.names = checked_names(name, other)
        self.name = name
        self.other = other
        self.count = checked_count(count)

    def __eq__(self, other):
        return (isinstance(other, Times) and self.name == other.name
                and self.other == other.other and self.count == other.count)

    def __str__(self):
        return f"times {self.name} {self.other} {self.count}"


class Copy(Binding):
    """x = y[:]"""

    def __init__(self, name, other):
        self.names = checked_names(name, other)
        self.name = name
        self.other = other

    def __eq__(self, other):
        return isinstance(other, Copy) and self.name == other.name and self.other == other.other

    def __str__(self):
        return f"copy {self.name} {self.other}"


class First(Binding, Asking):
    """x = y[0]"""

    def __init__(self, name, other):
        self.names = checked_names(name, other)
        self.name = name
        self.other = other

    def __eq__(self, other):
        return isinstance(other, First) and self.name == other.name and self.other == other.other

    def __str__(self):
        return f"first {self.name} {self.other}"


class Last(Binding, Asking):
    """x = y[-1]"""

    def __init__(self, name, other):
        self.names = checked_names(name, other)
        self.name = name
        self.other = other

    def __eq__(self, other):
        return isinstance(other, Last) and self.name == other.name and self.other == other.other

    def __str__(self):
        return f"last {self.name} {self.other}"


class Extend(Change):
    """x += y"""

    def __init__(self, name, other):
        self.names = checked_names(name, other)
        self.name = name
        self.other = other

    def __eq__(self, other):
        return isinstance(other, Extend) and self.name == other.name and self.other == other.other

    def __str__(self):
        return f"extend {self.name} {self.other}"


class Repeat(Change):
    """x *= count"""

    def __init__(self, name, count):
        self.names = checked_names(name)
        self.name = name
        self.count = checked_count(count)

    def __eq__(self, other):
        return isinstance(other, Repeat) and self.name == other.name and self.count == other.count

    def __str__(self):
        return f"repeat {self.name} {self.count}"


class Assign(Change):
    """x[:] = y"""

    def __init__(self, name, other):
        self.names = checked_names(name, other)
        self.name = name
        self.other = other

    def __eq__(self, other):
        return isinstance(other, Assign) and self.name == other.name and self.other == other.other

    def __str__(self):
        return f"assign {self.name} {self.other}"


class Append(Change):
    """The list of y is a further item of x, behind all others."""

    def __init__(self, name, other):
        self.names = checked_names(name, other)
        self.name = name
        self.other = other

    def __eq__(self, other):
        return isinstance(other, Append) and self.name == other.name and self.other == other.other

    def __str__(self):
        return f"append {self.name} {self.other}"


class Prepend(Change):
    """The list of y is a further item of x, ahead of all others."""

    def __init__(self, name, other):
        self.names = checked_names(name, other)
        self.name = name
        self.other = other

    def __eq__(self, other):
        return isinstance(other, Prepend) and self.name == other.name and self.other == other.other

    def __str__(self):
        return f"prepend {self.name} {self.other}"


class Clear(Change):
    """All items of x are taken away."""

    def __init__(self, name):
        self.names = checked_names(name)
        self.name = name

    def __eq__(self, other):
        return isinstance(other, Clear) and self.name == other.name

    def __str__(self):
        return f"clear {self.name}"


class Turn(Change):
    """The items of x are put into reverse order."""

    def __init__(self, name):
        self.names = checked_names(name)
        self.name = name

    def __eq__(self, other):
        return isinstance(other, Turn) and self.name == other.name

    def __str__(self):
        return f"turn {self.name}"


class Pop(Change, Asking):
    """The last item of x is taken away."""

    def __init__(self, name):
        self.names = checked_names(name)
        self.name = name

    def __eq__(self, other):
        return isinstance(other, Pop) and self.name == other.name

    def __str__(self):
        return f"pop {self.name}"


class Shift(Change, Asking):
    """The first item of x is taken away."""

    def __init__(self, name):
        self.names = checked_names(name)
        self.name = name

    def __eq__(self, other):
        return isinstance(other, Shift) and self.name == other.name

    def __str__(self):
        return f"shift {self.name}"


class Head(Change, Asking):
    """x[0] = y"""

    def __init__(self, name, other):
        self.names = checked_names(name, other)
        self.name = name
        self.other = other

    def __eq__(self, other):
        return isinstance(other, Head) and self.name == other.name and self.other == other.other

    def __str__(self):
        return f"head {self.name} {self.other}"


class Tail(Change, Asking):
    """x[-1] = y"""

    def __init__(self, name, other):
        self.names = checked_names(name, other)
        self.name = name
        self.other = other

    def __eq__(self, other):
        return isinstance(other, Tail) and self.name == other.name and self.other == other.other

    def __str__(self):
        return f"tail {self.name} {self.other}"


class If(Row):
    """The rows if the test holds, else the other ones."""

    def __init__(self, test, rows, others=()):
        if not isinstance(test, Test):
            raise InvalidRow("test")
        self.test = test
        self.rows = checked_rows(rows)
        self.others = checked_rows(others)
        self.names = ascending([name for part in (test, *self.rows, *self.others) for name in part.names])

    def __eq__(self, other):
        return (isinstance(other, If) and self.test == other.test
                and self.rows == other.rows and self.others == other.others)

    def __str__(self):
        others = ["else", *self.others] if self.others else []
        return "\n".join([str(part) for part in [f"if {self.test}", *self.rows, *others, "end"]])
