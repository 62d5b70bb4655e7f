"""Starts: which names hold which lists, and what is in these, when a run begins."""

from samelists.checks import ascending
from samelists.errors import NoName
from samelists.start_texts import read_start
from samelists.ways import count_ways, fillings, frozen_sets, holdings


def add_new(order, numbers):
    """Puts the numbers that are not there yet behind the others, as they are met."""
    for number in numbers:
        if number not in order:
            order.append(number)


def lists_met(held, lists):
    """The numbers of the lists that can be come to from those that are held, as they are met."""
    order = []
    add_new(order, held)
    at = 0
    while at < len(order):
        add_new(order, lists[order[at]])
        at = at + 1
    return order


class Start:
    """Names that hold lists; the lists are numbered in the order in which they are met."""

    def __init__(self, holders, lists, frozen=()):
        self.names = ascending(holders)
        held = [holders[name] for name in self.names]
        order = lists_met(held, lists)
        numbers = {passed: number for number, passed in enumerate(order)}
        self.holders = tuple([numbers[passed] for passed in held])
        self.lists = tuple([tuple([numbers[item] for item in lists[passed]]) for passed in order])
        self.frozen = tuple([passed in frozen for passed in order])
        ahead = (len(self), len(self.lists), self.frozen.count(True))
        self._place = (self.names, ahead, self.holders, self.lists, self.frozen)

    @classmethod
    def read(cls, text):
        """The start of a text."""
        holders, lists, frozen = read_start(text)
        return cls(holders, lists, frozen)

    def __len__(self):
        return len([item for row in self.lists for item in row])

    def __getitem__(self, at):
        if at not in self.names:
            raise NoName(at)
        return self.holders[self.names.index(at)]

    def __iter__(self):
        # Else Python would ask for 0, 1, .. as if these were names.
        raise TypeError("a start is not iterated over; its names and its lists are")

    def __eq__(self, other):
        return isinstance(other, Start) and self._place == other._place

    def __ne__(self, other):
        return not isinstance(other, Start) or self._place != other._place

    def __lt__(self, other):
        if not isinstance(other, Start):
            return NotImplemented
        return self._place < other._place

    def __le__(self, other):
        if not isinstance(other, Start):
            return NotImplemented
        return self._place <= other._place

    def __gt__(self, other):
        if not isinstance(other, Start):
            return NotImplemented
        return self._place > other._place

    def __ge__(self, other):
        if not isinstance(other, Start):
            return NotImplemented
        return self._place >= other._place

    def __str__(self):
        held = [(name, number) for name, number in zip(self.names, self.holders)]
        rows = [("frozen" if frozen else "opened", *row) for frozen, row in zip(self.frozen, self.lists)]
        return "\n".join([" ".join([str(word) for word in line]) for line in [*held, *rows]])


def starts(names, items):
    """Iterates over all starts with these names and exactly so many items, ascending."""
    named = ascending(names)
    for lists in range(1, len(named) + items + 1):
        # Each list that no name holds must be met first as an item of its own.
        fewest = lists - items
        held = [numbers for numbers in holdings(len(named)) if fewest <= len(set(numbers)) <= lists]
        for count in range(lists + 1):
            chosen = frozen_sets(0, lists, count)
            for numbers in held:
                holders = dict(zip(named, numbers))
                known = len(set(numbers))
                for rows in fillings((), (), known, lists, items):
                    for frozen in chosen:
                        yield Start(holders, rows, frozen)


def count_starts(names, items):
    """The number of the starts with these names and exactly so many items."""
    known = [len(set(numbers)) for numbers in holdings(len(names))]
    return sum([count_ways(count, items) for count in known])
