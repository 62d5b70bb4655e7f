"""All ways to choose from rows, and to make starts: who holds what, what is frozen, which lists hold which."""


def holdings(count):
    """All ways in which so many names can hold lists, as tuples of numbers, ascending."""
    ways = [()]
    for _ in range(count):
        ways = [way + (number,) for way in ways for number in range(len(set(way)) + 1)]
    return ways


def frozen_sets(first, lists, count):
    """All choices of so many of the numbers from `first` to below `lists`.

    They ascend as the tuples of bools do that tell of each list whether it is chosen: so those
    without the first list come ahead of those with it.
    """
    if count == 0:
        return [()]
    if count > lists - first:
        return []
    with_first = [(first, *chosen) for chosen in frozen_sets(first + 1, lists, count - 1)]
    return frozen_sets(first + 1, lists, count) + with_first


def selections(rows, count):
    """All choices of so many of the rows, each in their order, ascending where the rows ascend."""
    if count == 0:
        return [()]
    return [(rows[at], *more) for at in range(len(rows)) for more in selections(rows[at + 1:], count - 1)]


def all_parts(rows):
    """All choices of any number of the rows, each in their order; the tuples of their places ascend."""
    if len(rows) == 0:
        return [()]
    without_first = all_parts(rows[1:])
    with_first = [(rows[0], *part) for part in without_first]
    # That of none comes ahead of all others, and is the first one without the first row, too.
    return [(), *with_first, *without_first[1:]]


def fillings(done, row, known, lists, items):
    """Iterates over all tuples of so many lists that go on as told, ascending.

    `done` are the lists that are complete, `row` is the beginning of the next one. So many lists
    are `known`, by names or as items; so many `items` are still to come, among them the first
    one of each list that is not known. No call is in vain: there are enough items for these.
    """
    at = len(done)
    if items == 0:
        empty = ((),) * (lists - at - 1)
        yield (*done, row, *empty)
        return
    if at + 1 < known:
        more = (*done, row)
        yield from fillings(more, (), known, lists, items)
    fewer = items - 1
    if lists - known <= fewer:
        for item in range(known):
            longer = (*row, item)
            yield from fillings(done, longer, known, lists, fewer)
    if known < lists:
        longer = (*row, known)
        further = known + 1
        yield from fillings(done, longer, further, lists, fewer)


def with_one_item_more(counts):
    """From the counts for some number of items to come to those for one item more.

    `counts[known][waiting]` is the number of ways to go on if so many lists are known, and so
    many of them wait behind the list that is being filled: this list is ended, or a known list
    is its next item, or one that was not known.
    """
    more = []
    for known in range(len(counts) - 1):
        row = []
        for waiting in range(known):
            ended = row[waiting - 1] if waiting > 0 else 0
            row.append(ended + known * counts[known][waiting] + counts[known + 1][waiting + 1])
        more.append(row)
    return more


def count_ways(known, items):
    """The number of ways to fill lists, so many of them held by names, and to freeze some."""
    # Without items to come, only the choice of the frozen lists is left.
    counts = [[1 << number] * number for number in range(known + items + 1)]
    for _ in range(items):
        counts = with_one_item_more(counts)
    return counts[known][known - 1]
