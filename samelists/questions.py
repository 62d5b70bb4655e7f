"""Questions about one program: what can come of its runs from all starts."""

from samelists.cells import items_of, numbers_of
from samelists.comparing import Comparison, View, outcome_in
from samelists.parting import is_parted, least_parted
from samelists.programs import Program
from samelists.sketches import first_sketches


class Question:
    """A program, and the starts from which something is asked of its runs.

    What is asked is told by the method `parted` of the classes below, as `least_parted` needs it.
    """

    def __init__(self, program, names, apart):
        self.asked = program
        self.sketches = first_sketches([*program.names, *names], apart)

    def least(self):
        """The least start from which it is so, or None."""
        return least_parted(self, self.sketches)


def frames_apart(is_so):
    """Views that part at each start of a sketch in which it is so, else None."""
    return (View(True, ()), View(False, ())) if is_so else None


class Holding(Question):
    """Whether two names hold one list at the end, or whether they hold two."""

    def __init__(self, program, one, other, is_one, apart):
        Question.__init__(self, program, (one, other), apart)
        self.one = one
        self.other = other
        self.is_one = is_one

    def parted(self, sketch):
        """Views that part where it is so, else None. Raises Unknown."""
        outcome = outcome_in(sketch, self.asked)
        held = dict(zip(outcome.names, outcome.holders))
        return frames_apart((held[self.one] == held[self.other]) == self.is_one)


class Stopping(Question):
    """Whether the run stops at the row with a number."""

    def __init__(self, program, at, apart):
        Question.__init__(self, program, (), apart)
        self.at = at

    def parted(self, sketch):
        """Views that part where it is so, else None. Raises Unknown."""
        return frames_apart(outcome_in(sketch, self.asked).at == self.at)


class Changing(Question):
    """Whether the list that a name holds at the start has other items at the end."""

    def __init__(self, program, name, apart):
        Question.__init__(self, program, (name,), apart)
        self.name = name

    def parted(self, sketch):
        """Views that part where it is so, else None. Raises Unknown."""
        number = dict(zip(sketch.names, sketch.holders))[self.name]
        cells = sketch.cells()
        ahead = items_of(cells[number], numbers_of(cells))
        behind = outcome_in(sketch, self.asked).lists[number]
        return None if ahead == behind else (View((), (ahead,)), View((), (behind,)))


def can_be_one(program, one, other, *, apart=()):
    """The least starts at which both names hold one list at the end, and at which they hold two."""
    return Holding(program, one, other, True, apart).least(), Holding(program, one, other, False, apart).least()


def stops(program, *, apart=()):
    """For each row that can stop, its number and the least start from which the run stops there."""
    found = [(at, Stopping(program, at, apart).least()) for at in range(len(program))]
    return tuple([(at, start) for at, start in found if start is not None])


def can_change(program, name, *, apart=()):
    """The least start at which the list that the name holds there has other items at the end, or None."""
    return Changing(program, name, apart).least()


def undoes(program, other, *, seen=None, apart=()):
    """Whether the other program, behind this one, always leads back to where this one began."""
    comparison = Comparison(program + other, Program(), seen, apart, unless=program)
    return not is_parted(comparison, comparison.sketches)
