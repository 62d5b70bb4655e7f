"""Compares two programs in the sketches of all starts meant."""

from samelists.checks import ascending
from samelists.runs import outcome_of
from samelists.sketches import first_sketches


class View:
    """What is compared of an outcome: its frame, and rows of items, in which middles may stand."""

    def __init__(self, frame, rows):
        self.frame = frame
        self.rows = rows

    def __eq__(self, other):
        return isinstance(other, View) and self.frame == other.frame and self.rows == other.rows


class Comparison:
    """Two programs, seen as a whole or by names, from the starts in which some names are apart."""

    def __init__(self, p, q, seen, apart, is_one_way=False):
        told = [] if seen is None else list(seen)
        pairs = [(one, other) for one, other in apart]
        self.p = p
        self.q = q
        self.by = None if seen is None else ascending(told)
        # Then starts from which the first program stops are not looked at.
        self.is_one_way = is_one_way
        names_apart = [name for pair in pairs for name in pair]
        self.names = ascending([*p.names, *q.names, *told, *names_apart])
        self.sketches = first_sketches(self.names, pairs)

    def view(self, outcome):
        """What is compared of an outcome."""
        if self.by is None:
            return View((outcome.stopped, outcome.holders, outcome.frozen), outcome.lists)
        told = outcome.seen(self.by)
        return View(told[:1], told[1:])

    def parted(self, sketch):
        """The views of both outcomes where these are not the same, else None.

        Raises Unknown for the first question of the runs that the sketch leaves open.
        """
        first = outcome_of(self.p, sketch.names, sketch.holders, sketch.cells())
        if self.is_one_way and first.stopped:
            return None
        one = self.view(first)
        other = self.view(outcome_of(self.q, sketch.names, sketch.holders, sketch.cells()))
        return None if one == other else (one, other)
