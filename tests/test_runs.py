"""Points 7, 8, 9 and 23: outcomes of runs, and what names see of them."""

import itertools
import random
import unittest

import model
from samelists.errors import NoName
from samelists.programs import Program
from samelists.rows import Append, Clear, Let, New, Pop, Swap
from samelists.runs import Outcome, run
from samelists.starts import Start, starts


def lines(text):
    return text.replace("; ", "\n")


def outcome(rows, text):
    return run(Program.read(lines(rows)), Start.read(lines(text)))


def parts(made):
    return made.at, made.names, made.holders, made.lists, made.frozen


class OutcomeTest(unittest.TestCase):
    def test_an_empty_program(self):
        made = outcome("", "a 0; b 1; opened 2; frozen 0 0; frozen")
        self.assertEqual(parts(made), (None, ("a", "b"), (0, 1), ((2,), (0, 0), ()), (False, True, True)))
        self.assertIs(made.stopped, False)

    def test_kinds_of_values(self):
        made = outcome("new a b; seal b a", "a 0; b 1; opened 2; frozen 0 0; frozen")
        for value in parts(made)[1:]:
            self.assertIs(type(value), tuple)
        self.assertTrue(all(type(row) is tuple for row in made.lists))
        self.assertTrue(all(type(flag) is bool for flag in made.frozen))
        self.assertIsInstance(made, Outcome)

    def test_where_it_stops(self):
        made = outcome("append a a; pop a; pop a; append a a", "a 0; opened")
        self.assertEqual((made.stopped, *parts(made)), (True, 2, ("a",), (0,), ((),), (False,)))
        made = outcome("clear a", "a 0; frozen 0")
        self.assertEqual((made.stopped, *parts(made)), (True, 0, ("a",), (0,), ((0,),), (True,)))
        made = outcome("if open a; else; if full a; turn b; else; new b a; pop b; pop b; end; end", "a 0; b 0; frozen")
        self.assertEqual((made.stopped, *parts(made)), (True, 5, ("a", "b"), (0, 1), ((), ()), (True, False)))

    def test_lists_of_the_start_that_no_name_comes_to(self):
        made = outcome("new a; let b a", "a 0; b 1; frozen 2 0; opened; opened 1 0")
        self.assertEqual(parts(made), (
            None, ("a", "b"), (3, 3), ((2, 0), (), (1, 0), ()), (True, False, False, False)))

    def test_their_changes_are_told(self):
        made = outcome("append b b; new b", "a 0; b 1; frozen; opened")
        self.assertEqual(parts(made), (None, ("a", "b"), (0, 2), ((), (1,), ()), (True, False, False)))

    def test_new_lists_only_in_lists_that_no_name_comes_to(self):
        made = outcome("seal a; append b a; let a c; let b c", "a 0; b 1; c 2; opened; opened; opened")
        self.assertEqual(parts(made), (
            None, ("a", "b", "c"), (2, 2, 2), ((), (3,), (), ()), (False, False, False, True)))

    def test_new_lists_as_they_are_met(self):
        # Names first, ascending; then the lists of the start by their numbers; then the new lists.
        rows = "seal d; append c d; new d; append a d; new b d; new d b a"
        made = outcome(rows, "a 0; b 0; c 1; d 1; opened; opened")
        self.assertEqual(made.holders, (0, 2, 1, 3))
        self.assertEqual(made.lists, ((4,), (5,), (4,), (2, 0), (), ()))
        self.assertEqual(made.frozen, (False, False, False, False, False, True))
        made = outcome("new a; new b a; new a b b a; new b", "a 0; b 0; opened")
        self.assertEqual(made.holders, (1, 2))
        self.assertEqual(made.lists, ((), (3, 3, 4), (), (4,), ()))

    def test_new_lists_that_nobody_comes_to(self):
        made = outcome("new a a; new a; seal b; let b a", "a 0; b 0; opened")
        self.assertEqual(parts(made), (None, ("a", "b"), (1, 1), ((), ()), (False, False)))

    def test_frozen_lists_of_the_start_stay_frozen(self):
        made = outcome("extend a b; repeat b 1; copy b a", "a 0; b 1; frozen 1; frozen")
        self.assertEqual(parts(made), (None, ("a", "b"), (2, 2), ((1,), (), (1,)), (True, True, True)))

    def test_names_of_the_start_that_the_program_has_not(self):
        made = outcome("let c a", "a 0; b 1; c 1; opened; frozen")
        self.assertEqual(parts(made), (None, ("a", "b", "c"), (0, 1, 0), ((), ()), (False, True)))

    def test_no_name(self):
        start = Start({"b": 0, "d": 0}, [[]])
        for text, name in [
            ("let a b", "a"), ("pop d; pop d; let e b; let c b", "c"), ("if same b z; end; new aa", "aa"),
        ]:
            with self.assertRaises(NoName) as caught:
                run(Program.read(lines(text)), start)
            self.assertEqual(caught.exception.name, name)

    def test_arguments_by_name_and_unchanged(self):
        start, program = Start({"a": 0}, [[0]]), Program([Clear("a"), New("a", "a")])
        first = run(program=program, start=start)
        self.assertEqual((str(start), str(program)), ("a 0\nopened 0", "clear a\nnew a a"))
        self.assertEqual(parts(first), (None, ("a",), (1,), ((), (0,)), (False, False)))
        self.assertTrue(first == run(program, start))

    def test_random_programs_against_lists_of_python(self):
        some = random.Random(8)
        given = [start for items in range(3) for start in starts(["a", "b", "c"], items)]
        for _ in range(2000):
            program, start = model.some_program(some, ["a", "b", "c"], 6, 12, 3), some.choice(given)
            made = run(program, start)
            at, *rest = model.run_again(program, start)
            with self.subTest(str(program), start=str(start)):
                self.assertEqual((made.stopped, made.at), (at is not None, at))
                self.assertEqual([made.holders, made.lists, made.frozen], rest)
                for names in (["c", "a"], ["b"], []):
                    self.assertEqual(made.seen(names), model.seen_again(program, start, names))

    def test_largest_starts_and_programs(self):
        lists = [[(at + 1) % 12, (at * 5) % 12] for at in range(12)]
        start = Start({"a": 0, "b": 3, "c": 6, "d": 9}, lists, [3, 4])
        self.assertEqual((len(start), len(start.lists)), (24, 12))
        text = "times a a 3; repeat c 3; extend a c; join b a c; assign d b; turn d; append a b; prepend c a"
        program = Program.read(lines(text)) * 3
        made = run(program, start)
        self.assertEqual([made.holders, made.lists, made.frozen], list(model.run_again(program, start)[1:]))


class EqualTest(unittest.TestCase):
    def test_which_outcomes_are_equal(self):
        text = "a 0; b 1; opened 1; opened"
        same = [
            ("", "let a a"), ("new a", "new a a; new a"), ("swap a b", "swap b a"),
            ("new a; new b", "new b; new a"), ("append a b; pop a", "pop a; append a b"),
        ]
        for one, other in same:
            self.assertIs(outcome(one, text) == outcome(other, text), True)
            self.assertIs(outcome(one, text) != outcome(other, text), False)
        different = [
            ("", "swap a b"), ("", "copy a a"), ("new a", "seal a"), ("", "turn a; clear a"), ("new a", "let a b"),
            ("new a; let b a", "new a; new b"), ("new a a", "new a b"), ("", "pop b"), ("clear a", "clear a; pop a"),
            ("clear a; new a", "new a"), ("new a; append b a; new a", "new a"),
            ("new b b; append a b; let a b", "new b; append a b; let a b"),
        ]
        for one, other in different:
            self.assertIs(outcome(one, text) == outcome(other, text), False, (one, other))
            self.assertIs(outcome(one, text) != outcome(other, text), True)

    def test_where_it_stopped_does_not_count(self):
        one, other = outcome("pop a", "a 0; opened"), outcome("let a a; pop a", "a 0; opened")
        self.assertEqual((one.at, other.at), (0, 1))
        self.assertIs(one == other, True)

    def test_names_count(self):
        self.assertIs(outcome("", "a 0; opened") == outcome("", "b 0; opened"), False)

    def test_lists_that_nobody_comes_to_any_more_count(self):
        self.assertIs(outcome("append a a; new a", "a 0; opened") == outcome("new a", "a 0; opened"), False)

    def test_equal_to_nothing_else(self):
        class Yes:
            def __eq__(self, other):
                return True

        made = outcome("", "a 0; opened")
        for other in (None, True, 0, "", (), parts(made), (False, *parts(made)[1:]), Start({"a": 0}, [[]]), Yes()):
            self.assertIs(made == other, False)
            self.assertIs(made != other, True)

    def test_attributes_only(self):
        given = list(starts(["a", "b"], 1))
        made = [run(program, start) for start in given
                for program in (Program(), Program([Swap("a", "b")]), Program([Clear("a")]), Program([Let("a", "b")]))]
        for one, other in itertools.product(made, made):
            told = [(x.stopped, x.names, x.holders, x.lists, x.frozen) for x in (one, other)]
            self.assertIs(one == other, told[0] == told[1])


class SeenTest(unittest.TestCase):
    def setUp(self):
        # a holds a new list, b an old one that was changed, c an old one.
        rows = "new a b; seal d a; append b d; join a d b; prepend a d"
        self.made = outcome(rows, "a 0; b 1; c 2; d 0; opened; opened; frozen 1")

    def test_none_some_and_all(self):
        rows = "new a; append b a; new d a; append b d; new c d b a"
        made = outcome(rows, "a 0; b 1; c 2; d 0; opened 2; opened; frozen 1")
        self.assertEqual(made.seen([]), (False,))
        self.assertEqual(made.seen(["a"]), (False, ()))
        # New lists are numbered anew, as they are met in these items.
        self.assertEqual(made.seen(["b"]), (False, (3, 4)))
        self.assertEqual(made.seen(["c"]), (False, (3, 1, 4)))
        self.assertEqual(made.seen(["d"]), (False, (3,)))
        self.assertEqual(made.seen(["b", "c"]), (False, (3, 4), (4, 1, 3)))
        self.assertEqual(made.seen(["c", "d"]), (False, (3, 1, 4), (4,)))
        self.assertEqual(made.seen(["a", "b", "c", "d"]), (False, (), (3, 4), (4, 1, 3), (3,)))

    def test_in_any_order_and_twice(self):
        told = self.made.seen(["a", "b", "c"])
        for names in itertools.permutations(["a", "b", "c", "b"]):
            self.assertEqual(self.made.seen(names), told)
            self.assertEqual(self.made.seen(names=list(names)), told)

    def test_that_it_stopped(self):
        self.assertTrue(self.made.stopped)
        self.assertEqual(self.made.seen(()), (True,))
        self.assertEqual(self.made.seen(["b"]), (True, (3,)))
        self.assertIs(type(self.made.seen(["b"])[0]), bool)
        self.assertIs(type(self.made.seen(["b"])[1]), tuple)

    def test_which_list_a_name_holds_is_not_seen(self):
        text = "a 0; b 1; opened; opened 0 1"
        one, other = outcome("let a b", text), outcome("copy a b", text)
        self.assertFalse(one == other)
        self.assertEqual(one.seen(["a", "b"]), other.seen(["a", "b"]))

    def test_items_and_kinds_of_new_lists_are_not_seen(self):
        text = "a 0; b 0; opened"
        one, other = outcome("new a; new a a", text), outcome("seal a b b; new a a", text)
        self.assertEqual(one.seen(["a", "b"]), other.seen(["a", "b"]))
        self.assertEqual(one.seen(["a"]), (False, (1,)))

    def test_old_and_new_items_are_told_apart(self):
        text = "a 0; b 1; opened; opened"
        self.assertEqual(outcome("let b a; new a b", text).seen(["a"]), (False, (0,)))
        self.assertEqual(outcome("copy b a; new a b", text).seen(["a"]), (False, (2,)))

    def test_no_name(self):
        for names, name in [(["e"], "e"), (["a", "f", "e"], "f"), (("zz", "a"), "zz"), (["a", "", "b"], "")]:
            with self.assertRaises(NoName) as caught:
                self.made.seen(names)
            self.assertEqual(caught.exception.name, name)
        for value in (None, 0, True, ["a"], ("a",)):
            with self.assertRaises(NoName) as caught:
                self.made.seen(["a", value, "zz"])
            self.assertIs(caught.exception.name, value)

    def test_names_are_not_changed(self):
        names = ["c", "a", "c"]
        self.made.seen(names)
        self.assertEqual(names, ["c", "a", "c"])

    def test_names_that_the_program_has_not(self):
        start = Start({"a": 0, "b": 1}, [[1], [0, 0]])
        self.assertEqual(run(Program([Append("a", "a")]), start).seen(["b"]), (False, (0, 0)))
        self.assertEqual(run(Program([Pop("a")]), start).seen(["b", "a"]), (False, (), (0, 0)))
