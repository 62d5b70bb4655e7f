"""Sketches: parts of all starts, of which only some items and kinds are known."""

from samelists.cells import Cell, Middle
from samelists.checks import ascending
from samelists.starts import Start
from samelists.ways import holdings


class Known:
    """What a sketch tells of a list: its kind and its items.

    `frozen` is None if the kind is not told. The items are numbers of lists of the sketch: some
    at the front, some at the back, and if there is a middle, unknown ones between them.
    """

    def __init__(self, frozen, front, has_middle, back):
        self.frozen = frozen
        self.front = front
        self.has_middle = has_middle
        self.back = back

    def with_kind(self, frozen):
        """The same list, frozen or open."""
        return Known(frozen, self.front, self.has_middle, self.back)

    def without_middle(self):
        """The same list without further items."""
        return Known(self.frozen, self.front, False, self.back)

    def with_item(self, word, item):
        """The same list with the item that stands at the front or at the back of the middle."""
        if word == "front":
            return Known(self.frozen, (*self.front, item), self.has_middle, self.back)
        return Known(self.frozen, self.front, self.has_middle, (item, *self.back))

    def filled(self, number, cells):
        """The members of the cell of this list, which has this number."""
        middle = [Middle(number, False)] if self.has_middle else []
        return [cells[item] for item in self.front] + middle + [cells[item] for item in self.back]


def fresh_list():
    """A list of which nothing is known but that it is there."""
    return Known(None, (), True, ())


class Sketch:
    """Names that hold lists with numbers, and what is known of these lists."""

    def __init__(self, names, holders, lists):
        self.names = names
        self.holders = holders
        self.lists = lists

    def cells(self):
        """New cells for the lists, by their numbers."""
        cells = [Cell(number, known.frozen, []) for number, known in enumerate(self.lists)]
        for cell, known in zip(cells, self.lists):
            cell.members = known.filled(cell.number, cells)
        return cells

    def size(self):
        """How many items, lists and frozen lists there are at least in a start of this sketch."""
        items = sum([len(known.front) + len(known.back) for known in self.lists])
        return items, len(self.lists), len([known for known in self.lists if known.frozen])

    def leaves_open(self, word, number):
        """Whether a tree with this word and number may part the sketch."""
        known = self.lists[number]
        return known.frozen is None if word == "kind" else known.has_middle

    def changed(self, number, known, *more):
        """The sketch with something else known of a list, and perhaps with a further list."""
        return Sketch(self.names, self.holders, self.lists[:number] + (known,) + self.lists[number + 1:] + more)

    def answers(self, word, number):
        """The sketches into which a tree with this word and number parts the sketch, in order."""
        known = self.lists[number]
        if word == "kind":
            return [self.changed(number, known.with_kind(frozen)) for frozen in (False, True)]
        size = len(self.lists)
        with_items = [self.changed(number, known.with_item(word, item)) for item in range(size)]
        fresh = self.changed(number, known.with_item(word, size), fresh_list())
        return [self.changed(number, known.without_middle()), *with_items, fresh]

    def start(self, middles, fresh):
        """The start with these items in middles (by list), none in others, and so many lists more.

        The kinds that are not told are open, and the further lists are empty open ones.
        """
        rows = [known.front + middles.get(number, ()) + known.back for number, known in enumerate(self.lists)]
        frozen = [number for number, known in enumerate(self.lists) if known.frozen]
        return Start(dict(zip(self.names, self.holders)), rows + [()] * fresh, frozen)


def is_apart(names, holders, apart):
    """Whether the two names of each pair hold different lists."""
    held = dict(zip(names, holders))
    return all([held[one] != held[other] for one, other in apart])


def first_sketches(names, apart):
    """One sketch for each way in which these names, and those of the pairs, can hold lists.

    The two names of each pair hold different lists.
    """
    names_apart = [name for one, other in apart for name in (one, other)]
    known = ascending([*names, *names_apart])
    ways = [holders for holders in holdings(len(known)) if is_apart(known, holders, apart)]
    return [Sketch(known, holders, tuple([fresh_list() for _ in range(len(set(holders)))])) for holders in ways]
