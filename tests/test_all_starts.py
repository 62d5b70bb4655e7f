"""Points 5, 10 and 20: all starts with some names and some number of items."""

import itertools
import unittest

from samelists.starts import Start, count_starts, starts

NAMES = ["a", "b", "c", "d"]
# So few that all of them are made: names, items.
FEW = [(1, 0), (1, 1), (1, 2), (1, 3), (2, 0), (2, 1), (2, 2), (3, 0), (3, 1), (4, 0), (4, 1)]


def place(start):
    """What point 10 compares, told anew."""
    return (
        sum(len(row) for row in start.lists), len(start.lists), sum(start.frozen),
        start.holders, start.lists, start.frozen,
    )


def sizes(lists, items):
    """All ways to put so many items into so many lists."""
    if lists == 0:
        return [()] if items == 0 else []
    return [(size, *more) for size in range(items + 1) for more in sizes(lists - 1, items - size)]


def all_places(names, items):
    """The places of all starts: whatever can be passed, numbered anew, and those that lost no items kept."""
    found = set()
    for lists in range(1, len(names) + items + 1):
        for flat in itertools.product(range(lists), repeat=len(names) + items):
            # Numbers that skip one make no other starts.
            if any(number > max(flat[:at], default=-1) + 1 for at, number in enumerate(flat)):
                continue
            holders = dict(zip(names, flat))
            for row in sizes(lists, items):
                cuts = list(itertools.accumulate(row, initial=len(names)))
                rows = [flat[low:high] for low, high in zip(cuts, cuts[1:])]
                for flags in itertools.product([0, 1], repeat=lists):
                    start = Start(holders, rows, [at for at in range(lists) if flags[at]])
                    if len(start) == items:
                        found.add(place(start))
    return found


def first_ways(names):
    """In how many ways names hold lists, by (known lists, lists that wait behind the first one)."""
    ways = {}
    for numbers in itertools.product(range(names), repeat=names):
        if all(number <= max(numbers[:at], default=-1) + 1 for at, number in enumerate(numbers)):
            known = len(set(numbers))
            ways[known, known - 1] = ways.get((known, known - 1), 0) + 1
    return ways


def counted_ahead(names, items):
    """The number of starts, counted from their beginnings on (the package counts from their ends)."""
    ways = first_ways(names)
    for left in range(items, -1, -1):
        # Where a list waits, the one that is filled can be ended.
        for known in range(1, names + items + 1):
            for waiting in range(known - 1, 0, -1):
                ways[known, waiting - 1] = ways.get((known, waiting - 1), 0) + ways.get((known, waiting), 0)
        if left == 0:
            break
        more = {}
        for (known, waiting), number in ways.items():
            more[known, waiting] = more.get((known, waiting), 0) + number * known
            more[known + 1, waiting + 1] = more.get((known + 1, waiting + 1), 0) + number
        ways = more
    return sum(number * 2 ** known for (known, waiting), number in ways.items() if waiting == 0)


class StartsTest(unittest.TestCase):
    def test_the_first_of_all(self):
        self.assertEqual([str(start) for start in starts(["a"], 0)], ["a 0\nopened", "a 0\nfrozen"])
        self.assertEqual([str(start) for start in starts(["a"], 1)], [
            "a 0\nopened 0", "a 0\nfrozen 0", "a 0\nopened 1\nopened", "a 0\nopened 1\nfrozen",
            "a 0\nfrozen 1\nopened", "a 0\nfrozen 1\nfrozen",
        ])
        self.assertEqual([str(start).replace("\n", " ") for start in starts(["a", "b"], 0)], [
            "a 0 b 0 opened", "a 0 b 0 frozen", "a 0 b 1 opened opened", "a 0 b 1 opened frozen",
            "a 0 b 1 frozen opened", "a 0 b 1 frozen frozen",
        ])

    def test_the_start_of_the_overview(self):
        self.assertEqual(next(iter(starts(["a", "b"], 1))), Start({"a": 0, "b": 0}, [[0]]))

    def test_just_those_that_there_are_ascending(self):
        for count, items in FEW:
            names = NAMES[:count]
            with self.subTest(names=count, items=items):
                found = [place(start) for start in starts(names, items)]
                self.assertEqual(found, sorted(all_places(names, items)))

    def test_ascending_each_once(self):
        for count, items in [*FEW, (1, 4), (2, 3), (3, 2)]:
            found = list(starts(NAMES[:count], items))
            self.assertEqual(len(found), count_starts(NAMES[:count], items))
            for one, other in zip(found, found[1:]):
                self.assertIs(one < other, True)
                self.assertLess(place(one), place(other))

    def test_that_they_are_starts_with_these_names_and_so_many_items(self):
        for count, items in FEW:
            for start in starts(NAMES[:count], items):
                self.assertIsInstance(start, Start)
                self.assertEqual(start.names, tuple(NAMES[:count]))
                self.assertEqual(len(start), items)
                frozen = [at for at, flag in enumerate(start.frozen) if flag]
                self.assertEqual(Start(dict(zip(start.names, start.holders)), start.lists, frozen).lists, start.lists)

    def test_names_in_any_order(self):
        told = list(starts(["a", "bb", "c"], 1))
        for names in itertools.permutations(["a", "bb", "c"]):
            self.assertEqual(list(starts(names, 1)), told)
            self.assertEqual(list(starts(items=1, names=list(names))), told)

    def test_names_are_read_when_the_iteration_begins(self):
        names = ["a"]
        found = starts(names, 1)
        names.append("b")
        walk = iter(found)
        first = next(walk)
        self.assertEqual(first.names, ("a", "b"))
        names.clear()
        self.assertEqual([first, *walk], list(starts(["a", "b"], 1)))
        self.assertEqual(names, [])

    def test_the_first_ones_come_soon(self):
        for items in range(7):
            found = list(itertools.islice(starts(NAMES, items), 1000))
            self.assertEqual(len(found), min(1000, count_starts(NAMES, items)))
            self.assertEqual(found[0], Start(dict.fromkeys(NAMES, 0), [[0] * items]))
            self.assertEqual(found[1], Start(dict.fromkeys(NAMES, 0), [[0] * items], [0]))
            for one, other in zip(found, found[1:]):
                self.assertLess(place(one), place(other))

    def test_two_iterations_by_turns(self):
        told, others = list(starts(["a", "b"], 2)), list(starts(["x"], 3))
        one, again, other = iter(starts(["a", "b"], 2)), iter(starts(["a", "b"], 2)), iter(starts(["x"], 3))
        found = [[], [], []]
        next(again)
        for _ in range(333):
            found[0].append(next(one))
            found[1].append(next(again))
            found[2].append(next(other))
        self.assertEqual(found, [told[:333], told[1:334], others[:333]])

    def test_one_iteration_within_another_one(self):
        told = list(starts(["a"], 1))
        self.assertEqual([list(starts(["a"], 1)) for _ in starts(["a"], 1)], [told] * len(told))

    def test_the_same_call_again(self):
        self.assertEqual(list(starts(["a", "b"], 2)), list(starts(["a", "b"], 2)))


class CountTest(unittest.TestCase):
    def test_some_numbers(self):
        self.assertEqual([count_starts(["a"], items) for items in range(5)], [2, 6, 38, 334, 3574])
        self.assertEqual([count_starts(["a", "b"], items) for items in range(4)], [6, 38, 334, 3574])
        self.assertEqual([count_starts(NAMES[:count], 0) for count in range(1, 5)], [2, 6, 22, 94])

    def test_all_numbers_up_to_sixty(self):
        for count in range(1, 5):
            for items in [*range(12), 23, 40, 60]:
                with self.subTest(names=count, items=items):
                    self.assertEqual(count_starts(NAMES[:count], items), counted_ahead(count, items))

    def test_which_names_does_not_matter(self):
        for items in (0, 3, 20):
            self.assertEqual(count_starts(("q", "zz"), items), count_starts(["a", "b"], items))
            self.assertEqual(count_starts(items=items, names=["zz", "q"]), count_starts(["a", "b"], items))

    def test_against_all_starts(self):
        for count, items in [*FEW, (1, 4), (2, 3), (3, 2)]:
            self.assertEqual(count_starts(NAMES[:count], items), sum(1 for _ in starts(NAMES[:count], items)))

    def test_that_it_is_an_integer(self):
        self.assertIs(type(count_starts(["a"], 0)), int)
