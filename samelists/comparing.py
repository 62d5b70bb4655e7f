"""Compares two programs in the sketches of all starts meant."""

from samelists.checks import ascending
from samelists.runs import outcome_of
from samelists.sketches import first_sketches


class View:
    """What is compared of an outcome: its frame, and rows of items, in which middles may stand."""

    def __init__(self, frame, rows):
        self.frame = frame
        self.rows = rows

    def __eq__(self, other):
        return isinstance(other, View) and self.frame == other.frame and self.rows == other.rows


def outcome_in(sketch, program):
    """The outcome of a program in a sketch.

    Raises Unknown for the first question of the run that the sketch leaves open.
    """
    return outcome_of(program, sketch.names, sketch.holders, sketch.cells())


class Comparison:
    """Two programs, seen as a whole or by names, from the starts in which some names are apart."""

    def __init__(self, p, q, seen, apart, unless=None):
        told = [] if seen is None else list(seen)
        self.p = p
        self.q = q
        self.by = None if seen is None else ascending(told)
        # Starts from which this program stops are not looked at.
        self.unless = unless
        self.names = ascending([*p.names, *q.names, *told])
        self.sketches = first_sketches(self.names, apart)

    def view(self, outcome):
        """What is compared of an outcome."""
        if self.by is None:
            return View((outcome.stopped, outcome.holders, outcome.frozen), outcome.lists)
        told = outcome.seen(self.by)
        return View(told[:1], told[1:])

    def parted(self, sketch):
        """The views of both outcomes where these are not the same, else None.

        Raises Unknown for the first question of the runs that the sketch leaves open.
        """
        if self.unless is not None and outcome_in(sketch, self.unless).stopped:
            return None
        one = self.view(outcome_in(sketch, self.p))
        other = self.view(outcome_in(sketch, self.q))
        return None if one == other else (one, other)
