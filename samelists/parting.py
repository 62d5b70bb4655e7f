"""Finds the sketches, and the least start, in which outcomes part.

What parts them is told by an object with a method `parted`: of a sketch, a pair of views where
they part, None where they do not, and the error Unknown for a question that the sketch leaves open.
"""

from samelists.cells import Middle, Unknown

# So few items in middles are enough to tell two different rows with middles from one another:
# one shows that there are more of a middle, two tell a middle from another one or from itself turned.
MOST_MORE = 2


def is_parted(comparison, sketches):
    """Whether there is a start in one of the sketches at which outcomes part."""
    work = list(sketches)
    while work:
        sketch = work.pop()
        try:
            if comparison.parted(sketch) is not None:
                return True
        except Unknown as e:
            work.extend(sketch.answers(e.word, e.number))
    return False


def places(numbers, count):
    """All ways to choose so many of the numbers, in their order, each as often as wished."""
    if count == 0:
        return [()]
    return [(numbers[at], *more) for at in range(len(numbers)) for more in places(numbers[at:], count - 1)]


def count_fresh(row, known):
    """How many lists in a row of items are none of the known ones."""
    return len({item for item in row if item >= known})


def item_rows(known, count):
    """All rows of so many items; lists that were not known get the next numbers as they come."""
    rows = [()]
    for _ in range(count):
        rows = [(*row, item) for row in rows for item in range(known + count_fresh(row, known) + 1)]
    return rows


def put_into(place, row):
    """The items of a row by the list into whose middle they are put."""
    middles = {}
    for number, item in zip(place, row):
        middles[number] = middles.get(number, ()) + (item,)
    return middles


def items_by_mark(middles, known):
    """What stands in the place of the marks of middles with these items."""
    by_mark = {}
    for number, items in middles.items():
        # Below 0, lists that were not known are not mistaken for new ones of the outcome.
        told = tuple([item if item < known else known - 1 - item for item in items])
        by_mark[Middle(number, False).mark] = told
        by_mark[Middle(number, True).mark] = told[::-1]
    return by_mark


def written_out(row, by_mark):
    """A row of an outcome with items in the place of middles."""
    return [item for part in row for item in (by_mark.get(part, ()) if part < 0 else (part,))]


def tells(rows, middles, known):
    """Whether the two rows of some pair are different with these items in middles."""
    by_mark = items_by_mark(middles, known)
    return any([written_out(one, by_mark) != written_out(other, by_mark) for one, other in rows])


def least_of(found):
    """The least one of some starts."""
    least = found[0]
    for start in found:
        if start < least:
            least = start
    return least


def least_with(sketch, rows, numbers, count):
    """The least start of the sketch that tells two rows apart by so many items in middles, or None."""
    known = len(sketch.lists)
    ways = places(numbers, count)
    for fresh in range(count + 1):
        items = [row for row in item_rows(known, count) if count_fresh(row, known) == fresh]
        middles = [put_into(place, row) for place in ways for row in items]
        found = [sketch.start(put, fresh) for put in middles if tells(rows, put, known)]
        if found:
            return least_of(found)
    return None


def least_in(sketch, one, other):
    """The least start of a sketch in which two views part."""
    if one.frame != other.frame:
        return sketch.start({}, 0)
    rows = [(first, second) for first, second in zip(one.rows, other.rows) if first != second]
    marks = {mark: True for pair in rows for row in pair for mark in row if mark < 0}
    numbers = [number for number in range(len(sketch.lists))
               if Middle(number, False).mark in marks or Middle(number, True).mark in marks]
    for count in range(MOST_MORE + 1):
        least = least_with(sketch, rows, numbers, count)
        if least is not None:
            return least
    return None


def size_of(start):
    """How many items, lists and frozen lists there are in a start."""
    return len(start), len(start.lists), start.frozen.count(True)


def is_less(start, least):
    """Whether a start is less than the least one so far, if there is one."""
    return least is None or start < least


def least_parted(comparison, sketches):
    """The least start in the sketches at which outcomes part, or None."""
    least = None
    work = list(sketches)
    while work:
        sketch = work.pop()
        if least is not None and sketch.size() > size_of(least):
            continue
        try:
            views = comparison.parted(sketch)
        except Unknown as e:
            # The last one is looked at first: small starts soon make many others needless.
            work.extend(sketch.answers(e.word, e.number)[::-1])
            continue
        if views is not None:
            start = least_in(sketch, *views)
            least = start if is_less(start, least) else least
    return least
