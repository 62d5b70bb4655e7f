"""Points 5, 10 and 18: starts, their numbers and their order."""

import itertools
import unittest

from samelists.errors import NoName
from samelists.programs import Program
from samelists.rows import Let
from samelists.starts import Start

SOME = [
    ({"a": 0}, [[]], []),
    ({"a": 0}, [[0]], [0]),
    ({"a": 0, "b": 0}, [[0]], []),
    ({"a": 0, "b": 1}, [[], []], [1]),
    ({"a": 0, "b": 1}, [[1, 0], [2, 2]] + [[0]], [2]),
    ({"a": 0, "b": 0, "c": 1}, [[2, 1], [0, 3], [], [2]], [0, 3]),
    ({"a": 0, "b": 1, "c": 2, "d": 0}, [[3], [3], [1], [4, 5], [5], []], [1, 4, 5]),
]


def parts(start):
    return start.names, start.holders, start.lists, start.frozen


def renumbered(holders, lists, frozen, order):
    """The same start with other numbers: `order` has the new number of each list."""
    moved = [None] * len(lists)
    for at, row in enumerate(lists):
        moved[order[at]] = [order[item] for item in row]
    return {name: order[number] for name, number in holders.items()}, moved, [order[number] for number in frozen]


class NumbersTest(unittest.TestCase):
    def test_numbered_already(self):
        for holders, lists, frozen in SOME:
            start = Start(holders, lists, frozen)
            self.assertEqual(start.names, tuple(sorted(holders)))
            self.assertEqual(start.holders, tuple(holders[name] for name in sorted(holders)))
            self.assertEqual(start.lists, tuple(tuple(row) for row in lists))
            self.assertEqual(start.frozen, tuple(at in frozen for at in range(len(lists))))

    def test_names_first_then_items(self):
        start = Start({"b": 3, "a": 1}, [[], [2, 0], [4], [4, 2], []])
        # a holds 1 (now 0), b holds 3 (now 1); in 0 stand 2 (now 2) and 0 (now 3); in 1 stands 4 (now 4).
        self.assertEqual(parts(start), (("a", "b"), (0, 1), ((2, 3), (4, 2), (4,), (), ()), (False,) * 5))

    def test_names_that_hold_one_list(self):
        start = Start({"c": 0, "b": 1, "a": 1}, [[1], [0]], [0])
        self.assertEqual(parts(start), (("a", "b", "c"), (0, 0, 1), ((1,), (0,)), (False, True)))

    def test_names_ascending(self):
        start = Start({"b": 0, "ab": 1, "aab": 2, "zz": 3}, [[], [], [], [0]])
        self.assertEqual(start.names, ("aab", "ab", "b", "zz"))
        self.assertEqual(start.holders, (0, 1, 2, 3))
        self.assertEqual(start.lists, ((), (), (), (2,)))

    def test_all_numberings(self):
        for holders, lists, frozen in SOME:
            told = parts(Start(holders, lists, frozen))
            for order in itertools.permutations(range(len(lists))):
                start = Start(*renumbered(holders, lists, frozen, order))
                self.assertEqual(parts(start), told)
                self.assertIs(start == Start(holders, lists, frozen), True)

    def test_lists_that_nobody_comes_to(self):
        start = Start({"a": 2}, [[1, 2], [0], [3], [], [4], [2, 3]], [0, 3, 4])
        self.assertEqual(parts(start), (("a",), (0,), ((1,), ()), (False, True)))
        for holders, lists, frozen in SOME:
            size = len(lists)
            more = [*lists, [0, size + 1], [size, size, 0]]
            self.assertEqual(parts(Start(holders, more, [*frozen, size])), parts(Start(holders, lists, frozen)))

    def test_items_are_numbered_list_by_list(self):
        # Not depth first: all items of list 0 come ahead of those of list 1.
        start = Start({"a": 0}, [[5, 3], [], [], [4], [], [1, 2]])
        self.assertEqual(start.lists, ((1, 2), (3, 4), (5,), (), (), ()))

    def test_lists_and_tuples(self):
        for holders, lists, frozen in SOME:
            told = parts(Start(holders, lists, frozen))
            for outer, inner, last in itertools.product((list, tuple), repeat=3):
                start = Start(holders, outer([inner(row) for row in lists]), last(frozen))
                self.assertEqual(parts(start), told)
                for value in told:
                    self.assertIs(type(value), tuple)
                self.assertTrue(all(type(row) is tuple for row in start.lists))
                self.assertTrue(all(type(flag) is bool for flag in start.frozen))

    def test_arguments_by_name(self):
        start = Start(frozen=[0], lists=[[], [0]], holders={"a": 1})
        self.assertEqual(parts(start), (("a",), (0,), ((1,), ()), (False, True)))

    def test_no_frozen_lists(self):
        self.assertEqual(Start({"a": 0}, [[1], []]).frozen, (False, False))

    def test_a_frozen_list_told_twice(self):
        self.assertEqual(Start({"a": 0}, [[1], []], [1, 1]), Start({"a": 0}, [[1], []], [1]))

    def test_twelve_lists(self):
        lists = [[(at + 1) % 12, 0] for at in range(12)]
        self.assertEqual(Start({"a": 0}, lists).lists, tuple(tuple(row) for row in lists))
        start = Start({"a": 11}, lists)
        self.assertEqual(start.lists[:2], ((1, 1), (2, 1)))
        self.assertEqual(len(start), 24)


class ArgumentsTest(unittest.TestCase):
    def test_what_was_passed_is_not_changed_and_may_be_changed_afterwards(self):
        holders, lists, frozen = {"b": 1, "a": 2}, [[0], [0, 2], [1, 1]], [2, 0]
        start = Start(holders, lists, frozen)
        self.assertEqual((holders, lists, frozen), ({"b": 1, "a": 2}, [[0], [0, 2], [1, 1]], [2, 0]))
        self.assertEqual(list(holders), ["b", "a"])
        told, text = parts(start), str(start)
        holders["c"] = 0
        holders["a"] = 0
        lists[2].append(0)
        lists[1].clear()
        lists.append([1])
        frozen.append(1)
        frozen.remove(0)
        self.assertEqual(parts(start), told)
        self.assertEqual(str(start), text)
        self.assertEqual(len(start), 5)
        self.assertEqual(start, Start({"b": 1, "a": 2}, [[0], [0, 2], [1, 1]], [2, 0]))


class LengthAndIndexTest(unittest.TestCase):
    def test_length(self):
        self.assertEqual([len(Start(*some)) for some in SOME], [0, 1, 1, 0, 5, 5, 6])
        self.assertEqual(len(Start({"a": 1}, [[0, 0, 0], []])), 0)

    def test_index(self):
        start = Start({"a": 2, "bb": 0, "c": 2}, [[1], [], []])
        self.assertEqual((start["a"], start["bb"], start["c"]), (0, 1, 0))

    def test_no_name(self):
        start = Start({"a": 0, "bb": 0}, [[]])
        for name in ("b", "c", "aa", "zzzz", "", "A", "a "):
            with self.assertRaises(NoName) as caught:
                start[name]
            self.assertEqual(caught.exception.name, name)
        for value in (0, 1, -1, True, None, [], ["a"], ("a",)):
            with self.assertRaises(NoName) as caught:
                start[value]
            self.assertIs(caught.exception.name, value)


def place(start):
    """What point 10 compares, told anew."""
    return (
        sum(len(row) for row in start.lists), len(start.lists), sum(start.frozen),
        start.holders, start.lists, start.frozen,
    )


class OrderTest(unittest.TestCase):
    def check(self, one, other):
        """Compares the starts by all six signs with their places."""
        first, second = place(one), place(other)
        self.assertIs(one == other, first == second)
        self.assertIs(one != other, first != second)
        self.assertIs(one < other, first < second)
        self.assertIs(one <= other, first <= second)
        self.assertIs(one > other, first > second)
        self.assertIs(one >= other, first >= second)

    def test_each_step_of_the_order(self):
        ascending = [
            # More items come behind, whatever else there is.
            Start({"a": 0, "b": 1}, [[], []], [0, 1]),
            # Then more lists.
            Start({"a": 0, "b": 0}, [[0]], [0]),
            Start({"a": 0, "b": 0}, [[1], []]),
            # Then more frozen lists.
            Start({"a": 0, "b": 1}, [[0], []]),
            Start({"a": 0, "b": 0}, [[1], []], [1]),
            # Then the holders.
            Start({"a": 0, "b": 1}, [[], [0]], [1]),
            # Then the items: list by list, a list ahead of a longer one that begins like it.
            Start({"a": 0, "b": 1}, [[], [1]], [1]),
            Start({"a": 0, "b": 1}, [[0], []], [1]),
            # Then the frozen lists: False is ahead of True.
            Start({"a": 0, "b": 1}, [[0], []], [0]),
            Start({"a": 0, "b": 1}, [[1], []], [0]),
        ]
        for one, other in itertools.combinations(ascending, 2):
            self.assertIs(one < other, True)
            self.check(one, other)
            self.check(other, one)
            self.check(one, one)

    def test_all_pairs_of_some(self):
        found = []
        for holders in ({"a": 0, "b": 0}, {"a": 0, "b": 1}, {"a": 1, "b": 0}):
            for rows in itertools.product([(), (0,), (1,), (1, 0), (2,)], repeat=2):
                for frozen in ([], [0], [1], [2], [0, 1], [0, 1, 2]):
                    found.append(Start(holders, [*rows, ()], frozen))
        for one, other in itertools.product(found[::7], found):
            self.check(one, other)

    def test_equal_starts(self):
        one, other = Start({"a": 0}, [[1], []], [1]), Start({"a": 1}, [[], [0]], [0])
        self.check(one, other)
        self.assertIs(one == other, True)
        self.assertIs(one <= other, True)
        self.assertIs(one < other, False)

    def test_other_names_are_unequal(self):
        one = Start({"a": 0}, [[]])
        for other in (Start({"b": 0}, [[]]), Start({"a": 0, "b": 0}, [[]])):
            self.assertIs(one == other, False)
            self.assertIs(one != other, True)

    def test_equal_to_nothing_else(self):
        class Yes:
            def __eq__(self, other):
                return True

        start = Start({"a": 0}, [[]])
        for other in (None, True, 0, "", str(start), [], (), parts(start), {"a": 0}, Let("a", "b"), Program(), Yes()):
            self.assertIs(start == other, False)
            self.assertIs(start != other, True)

    def test_no_order_with_other_things(self):
        start = Start({"a": 0}, [[]])
        for other in (None, 0, "", (), Program()):
            for compare in (lambda: start < other, lambda: start <= other,
                            lambda: start > other, lambda: start >= other):
                self.assertRaises(TypeError, compare)

    def test_methods_stand_in_the_class_itself(self):
        for name in ("__init__", "__len__", "__getitem__", "__eq__", "__ne__", "__lt__", "__le__", "__gt__", "__ge__",
                     "__str__", "read"):
            self.assertIn(name, vars(Start))
