"""Whether two programs do the same from all starts, and the least start from which they do not."""

from samelists.comparing import Comparison
from samelists.parting import is_parted, least_parted
from samelists.ways import selections


def alike(p, q, *, seen=None, apart=()):
    """Whether both programs have the same outcome from each start meant."""
    comparison = Comparison(p, q, seen, apart)
    return not is_parted(comparison, comparison.sketches)


def least_start(p, q, *, seen=None, apart=()):
    """The least start meant from which the programs have not the same outcome, or None."""
    comparison = Comparison(p, q, seen, apart)
    return least_parted(comparison, comparison.sketches)


def follows(p, q, *, seen=None, apart=()):
    """Whether q ends with the outcome of p from each start meant from which p does not stop."""
    comparison = Comparison(p, q, seen, apart, unless=p)
    return not is_parted(comparison, comparison.sketches)


def least_unlike(p, q, *, seen=None, apart=()):
    """The least start meant that shows that q does not follow p, or None."""
    comparison = Comparison(p, q, seen, apart, unless=p)
    return least_parted(comparison, comparison.sketches)


def pairs_within(sketch, pairs):
    """Those of the pairs whose two names hold one list in a first sketch."""
    held = dict(zip(sketch.names, sketch.holders))
    return [pair for pair in pairs if held[pair[0]] == held[pair[1]]]


def apart_needed(p, q, *, seen=None):
    """The fewest pairs of names that must hold different lists for the programs to be alike, or None."""
    comparison = Comparison(p, q, seen, ())
    pairs = selections(comparison.names, 2)
    parted = [sketch for sketch in comparison.sketches if is_parted(comparison, [sketch])]
    # Each of these sketches is left out if one of its pairs is chosen.
    rows = [pairs_within(sketch, pairs) for sketch in parted]
    for count in range(len(pairs) + 1):
        for chosen in selections(pairs, count):
            if all([any([pair in chosen for pair in row]) for row in rows]):
                return chosen
    return None
