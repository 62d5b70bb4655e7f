"""Points 2, 11 and 36 to 38: houses, what is taken back in them, guarded and tried."""

import random
import unittest

import model
from samelists.errors import Guarded, InvalidRow, NoName, Stops
from samelists.houses import House
from samelists.programs import Program
from samelists.rows import (
    Append, Binding, Change, Clear, Full, If, Let, New, Open, Pop, Row, Same, Seal, Shift, Swap, Turn,
)
from samelists.runs import run
from samelists.starts import Start


def lines(text):
    return text.replace("; ", "\n")


def begun(text):
    return Start.read(lines(text))


def program(text):
    return Program.read(lines(text))


def row(text):
    """The one row of a text."""
    made, = program(text).rows
    return made


def start_at(names, holders, rows, frozen):
    """The start of what an outcome tells."""
    return Start(dict(zip(names, holders)), rows, [at for at, flag in enumerate(frozen) if flag])


def house_at(text, *names):
    """A house at a start, with these names guarded."""
    house = House(begun(text))
    for name in names:
        house.guard(name)
    return house


def told(house):
    """All that a house tells of itself."""
    return house.names, house.guarded, str(house.start()), str(house.program()), len(house)


def all_told(house):
    """What a house tells of itself, as it is now and as it was behind each change."""
    found = [told(house)]
    while house.undo():
        found.append(told(house))
    return found


THREE = "a 0; b 1; c 0; opened 1; opened 2; frozen"
EITHER = If(Open("a"), [Append("a", "b"), Append("a", "c")], [Let("a", "b")])

# Rows that are refused, the name of the error, and its argument; all of it in a house at THREE.
REFUSED = [
    (None, InvalidRow, "row"), (0, InvalidRow, "row"), ("clear a", InvalidRow, "row"), ([], InvalidRow, "row"),
    ((), InvalidRow, "row"), ([Clear("a")], InvalidRow, "row"), ((Clear("a"),), InvalidRow, "row"),
    (Program([Clear("a")]), InvalidRow, "row"), (Open("a"), InvalidRow, "row"), (Row, InvalidRow, "row"),
    (Same("x", "y"), InvalidRow, "row"), (True, InvalidRow, "row"), ({}, InvalidRow, "row"),
    # The first one of the names, ascending, also within blocks whose rows would not be done.
    (Clear("d"), NoName, "d"), (Let("z", "y"), NoName, "y"), (Append("a", "d"), NoName, "d"),
    (New("a", "f", "e"), NoName, "e"),
    (If(Open("d"), []), NoName, "d"), (If(Open("a"), [], [Clear("zz")]), NoName, "zz"),
    (If(Open("a"), [Clear("z")], [Clear("y"), If(Same("a", "x"), [])]), NoName, "x"), (Swap("aa", "d"), NoName, "aa"),
    # Ahead of what stops.
    (If(Open("a"), [New("a"), Pop("a")], [Clear("d")]), NoName, "d"),
    # Whichever row stops.
    (If(Open("a"), [Let("b", "a"), New("a"), Pop("a"), New("b")]), Stops, 0),
    (If(Open("a"), [Append("a", "b"), If(Full("b"), [Seal("b"), Clear("b")])]), Stops, 0),
]

# A start, the guarded names, a row, and the name that is told, or the start that follows.
GUARDING = [
    ("a 0; b 0; opened", "a", "append b b", "a"), ("a 0; b 0; opened", "b", "append b b", "a 0; b 0; opened 0"),
    ("a 0; b 0; opened", "a b", "append b b", "a"), ("a 0; b 0; opened", "a b", "append a b", "b"),
    ("a 0; b 1; opened; opened", "a", "append b b", "a 0; b 1; opened; opened 1"),
    ("a 0; b 0; c 0; opened 0", "b c", "clear a", "b"), ("a 0; b 0; c 0; opened 0", "b c", "clear b", "c"),
    ("a 0; b 0; c 1; opened 0; opened", "c b", "clear a", "b"),
    ("a 0; b 1; c 0; opened; opened 0", "b c", "turn a", "a 0; b 1; c 0; opened; opened 0"),
    # All rows that change a list in place.
    ("a 0; b 0; opened 0", "b", "extend a a", "b"), ("a 0; b 0; opened 0", "b", "repeat a 0", "b"),
    ("a 0; b 1; c 0; opened; opened 1", "c", "assign a b", "c"), ("a 0; b 0; opened", "b", "prepend a a", "b"),
    ("a 0; b 0; opened 0 1; opened", "b", "turn a", "b"), ("a 0; b 0; opened 0", "b", "pop a", "b"),
    ("a 0; b 0; opened 0", "b", "shift a", "b"), ("a 0; b 1; c 0; opened 0; opened", "c", "head a b", "c"),
    ("a 0; b 1; c 0; opened 0; opened", "c", "tail a b", "c"),
    # Rows that leave the same items.
    ("a 0; b 0; opened 0 0", "b", "turn a", "a 0; b 0; opened 0 0"),
    ("a 0; b 0; opened 0", "b", "repeat a 1", "a 0; b 0; opened 0"),
    ("a 0; b 0; opened", "b", "clear a", "a 0; b 0; opened"),
    ("a 0; b 0; opened", "b", "extend a b", "a 0; b 0; opened"),
    ("a 0; b 0; opened 0", "b", "assign a b", "a 0; b 0; opened 0"),
    ("a 0; b 0; opened 0", "b", "head a a", "a 0; b 0; opened 0"),
    ("a 0; b 0; opened", "b", "repeat a 3", "a 0; b 0; opened"),
    # The items of its items are not its own.
    ("a 0; b 1; opened 1; opened", "a", "append b b", "a 0; b 1; opened 1; opened 1"),
    # What only binds changes no list, and is done to guarded names by any row.
    ("a 0; b 0; opened 0", "b", "new a", "a 0; b 1; opened; opened 1"),
    ("a 0; b 1; opened; opened 0", "a b", "swap a b", "a 0; b 1; opened 1; opened"),
    ("a 0; b 1; opened; opened 0", "b", "let b a", "a 0; b 0; opened"),
    ("a 0; b 0; frozen 0", "b", "extend a a", "a 0; b 1; frozen 1 1; frozen 1"),
    ("a 0; b 1; opened 1; opened", "a", "first a a", "a 0; b 0; opened"),
    # Within blocks: only rows that are done, by the list that the name holds ahead of each.
    ("a 0; b 0; opened", "b", "if open a; append a a; end", "b"),
    ("a 0; b 0; opened", "b", "if open a; else; append a a; end", "a 0; b 0; opened"),
    ("a 0; b 0; opened", "b", "if open a; append b a; end", "a 0; b 0; opened 0"),
    ("a 0; b 0; opened", "b", "if full a; else; append a a; end", "b"),
    ("a 0; b 0; opened 0", "b", "if open b; if full b; clear a; end; end", "b"),
    ("a 0; b 0; opened", "b", "if same a b; new b; append a a; end", "a 0; b 1; opened 0; opened"),
    ("a 0; b 1; opened; opened", "b", "if open a; let b a; append a a; end", "b"),
    ("a 0; b 1; opened; opened", "b", "if open a; let b a; append b a; let a b; end", "a 0; b 0; opened 0"),
    ("a 0; b 1; opened; opened", "b", "if open a; let a b; let b a; new b; append a a; end",
     "a 0; b 1; opened 0; opened"),
    # Also where the change is undone within the block.
    ("a 0; b 0; opened", "b", "if open a; append a a; pop a; end", "b"),
    ("a 0; b 0; opened", "b", "if open a; append a a; pop b; end", "b"),
    ("a 0; b 0; opened", "b", "if open a; append b a; pop a; end", "b"),
    ("a 0; b 0; opened 0 1; opened", "b", "if open a; turn a; turn a; end", "b"),
    ("a 0; b 0; opened", "b", "if open a; append a a; new b; end", "b"),
    ("a 0; b 0; opened", "b", "if open a; append b a; pop b; end", "a 0; b 0; opened"),
    # Of several the first one, not that of the first change.
    ("a 0; b 0; c 1; d 1; opened; opened", "b d", "if open a; append c c; append a a; end", "b"),
    ("a 0; b 0; c 1; d 1; opened; opened", "b d", "if open a; append a a; append c c; end", "b"),
    ("a 0; b 0; c 1; d 1; opened; opened", "b d", "if open a; append c c; append b b; end", "d"),
]


class DoTest(unittest.TestCase):
    def test_a_new_house(self):
        start = begun(THREE)
        house = House(start)
        self.assertEqual(told(house), (("a", "b", "c"), (), lines(THREE), "", 0))
        self.assertEqual((house.start(), house.program()), (start, Program()))
        values = (house.names, house.guarded, house.start(), house.program(), len(house))
        self.assertEqual([type(value) for value in values], [tuple, tuple, Start, Program, int])
        self.assertIs(house.undo(), False)
        self.assertEqual(House(start=start).start(), start)

    def test_one_after_the_other(self):
        house = House(begun(THREE))
        done = []
        block = If(Same("a", "c"), [], [New("c", "a", "a")])
        for made in [Append("a", "b"), EITHER, Swap("a", "b"), block, Let("b", "b")]:
            self.assertIsNone(house.do(made))
            done.append(made)
            self.assertEqual(house.program(), Program(done))
            self.assertEqual(len(house), len(done))
            at, *rest = model.run_again(house.program(), begun(THREE))
            self.assertIsNone(at)
            self.assertEqual(house.start(), start_at("abc", *rest))
        self.assertEqual(house.names, ("a", "b", "c"))

    def test_a_row_may_be_passed_by_name(self):
        house = house_at(THREE)
        self.assertIsNone(house.do(row=Clear("a")))
        self.assertIsNone(house.guard(name="a"))
        self.assertEqual(house.guarded, ("a",))
        self.assertIsNone(house.release(name="a"))
        self.assertEqual(house.tried(rows=[Append("a", "a")]), begun("a 0; b 1; c 0; opened 0; opened 2; frozen"))
        self.assertEqual(house.within(work=len), 1)

    def test_what_is_not_met_any_more_is_forgotten(self):
        house = House(begun("a 0; opened 1; opened 2; opened"))
        house.do(Clear("a"))
        self.assertEqual(house.start(), begun("a 0; opened"))
        self.assertEqual(len(house.start().lists), 1)
        house.undo()
        self.assertEqual(house.start(), begun("a 0; opened 1; opened 2; opened"))

    def test_starts_and_programs_that_were_told_do_not_change(self):
        house = House(begun("a 0; opened"))
        start, made = house.start(), house.program()
        house.do(Append("a", "a"))
        self.assertEqual((start, made), (begun("a 0; opened"), Program()))
        start, made = house.start(), house.program()
        house.undo()
        self.assertEqual((start, made), (begun("a 0; opened 0"), program("append a a")))

    def test_two_houses_of_one_start(self):
        start = begun("a 0; opened")
        one, other = House(start), House(start)
        one.do(Append("a", "a"))
        one.guard("a")
        self.assertEqual(told(other), (("a",), (), str(start), "", 0))
        self.assertEqual(start, begun("a 0; opened"))

    def test_a_hundred_changes(self):
        house = House(begun("a 0; b 1; opened; opened"))
        for at in range(50):
            house.do(New("a", "a"))
            house.do(Append("b", "a"))
        self.assertEqual((len(house), len(house.start())), (100, 100))
        # Each list but the first one has the one that came ahead of it as its item.
        self.assertEqual(house.start()["a"], 0)
        self.assertEqual(len(house.start().lists), 52)
        self.assertEqual(str(house.program()), "\n".join(["new a a\nappend b a"] * 50))
        for _ in range(100):
            self.assertIs(house.undo(), True)
        self.assertEqual(told(house), (("a", "b"), (), lines("a 0; b 1; opened; opened"), "", 0))


class RefusedTest(unittest.TestCase):
    def check(self, house, made, error, argument):
        """The row is refused, and nothing is changed by this."""
        before = told(house)
        with self.assertRaises(error) as caught:
            house.do(made)
        self.assertIs(type(caught.exception), error)
        self.assertEqual(list(vars(caught.exception).values()), [argument])
        self.assertEqual(told(house), before)

    def test_each_error(self):
        for made, error, argument in REFUSED:
            with self.subTest(str(made)):
                self.check(house_at(THREE), made, error, argument)

    def test_any_value_is_refused_that_is_no_row(self):
        for value in (1, "", "let", b"", (1,), [[]], {"a": 1}, object(), Binding, Change, lambda: None, -1):
            self.check(house_at(THREE), value, InvalidRow, "row")

    def test_nothing_is_lost_by_a_refusal(self):
        house = house_at(THREE, "b")
        house.do(EITHER)
        house.do(Swap("a", "b"))
        for made, error, argument in REFUSED:
            # The block that stopped may stop no more, or be refused because of the guard.
            if error is not Stops:
                self.check(house, made, error, argument)
        self.check(house, If(Same("a", "a"), [Let("c", "a"), Seal("a"), Turn("a")]), Stops, 0)
        self.assertEqual([one[3:] for one in all_told(house)], [
            (f"{EITHER}\nswap a b", 2), (str(EITHER), 1), ("", 0)])

    def test_frozen_and_empty_lists(self):
        rows = "assign a b; append a b; prepend a b; clear a; turn a; pop a; shift a; head a b; tail a b"
        for made in program(rows).rows:
            for text in ("a 0; b 1; frozen 1 1; opened", "a 0; b 0; frozen"):
                self.check(house_at(text), made, Stops, 0)
                self.check(house_at(text), If(Same("a", "a"), [Let("b", "b"), made]), Stops, 0)
        for made in program("pop a; shift a; head a a; tail a a; first b a; last b a").rows:
            self.check(house_at("a 0; b 1; opened; opened 0"), made, Stops, 0)
            self.check(house_at("a 0; b 1; opened; opened 0"), If(Full("a"), [], [made]), Stops, 0)

    def test_the_order_of_errors(self):
        # Of the names ahead of what stops, and this ahead of guards.
        house = house_at("a 0; b 0; opened", "b")
        self.check(house, If(Same("a", "a"), [Append("a", "a"), New("a"), Pop("a")], [Clear("d")]), NoName, "d")
        self.check(house, If(Same("a", "a"), [Append("a", "a"), New("a"), Pop("a")]), Stops, 0)
        self.check(house, If(Same("a", "a"), [Append("a", "a"), New("a")]), Guarded, "b")
        self.check(house, Append("a", "c"), NoName, "c")
        self.check(house_at("a 0; b 0; frozen", "b"), Clear("a"), Stops, 0)

    def test_guards(self):
        for text, names, made, wanted in GUARDING:
            with self.subTest(text, names=names, made=made):
                house = house_at(text, *names.split(" "))
                if len(wanted) == 1:
                    self.check(house, row(made), Guarded, wanted)
                    for name in names.split(" "):
                        house.release(name)
                    house.do(row(made))
                else:
                    house.do(row(made))
                    self.assertEqual(house.start(), begun(wanted))
                self.assertEqual(len(house), 1)


class UndoTest(unittest.TestCase):
    def test_to_the_beginning_and_beyond(self):
        house = House(begun(THREE))
        before = []
        for made in [Append("a", "a"), Let("b", "c"), EITHER, New("c")]:
            before.append(told(house))
            house.do(made)
        while before:
            self.assertIs(house.undo(), True)
            self.assertEqual(told(house), before.pop())
        for _ in range(3):
            self.assertIs(house.undo(), False)
            self.assertEqual(told(house), (("a", "b", "c"), (), lines(THREE), "", 0))

    def test_a_row_that_changes_nothing_is_a_change(self):
        house = House(begun("a 0; opened"))
        house.do(Let("a", "a"))
        house.do(If(Full("a"), [Clear("a")]))
        self.assertEqual((len(house), str(house.program())), (2, "let a a\nif full a\nclear a\nend"))
        self.assertIs(house.undo(), True)
        self.assertEqual((len(house), str(house.program())), (1, "let a a"))

    def test_behind_it_other_rows_are_done(self):
        house = House(begun("a 0; opened"))
        house.do(Append("a", "a"))
        house.do(Seal("a"))
        house.undo()
        house.do(Append("a", "a"))
        self.assertEqual(told(house), (("a",), (), "a 0\nopened 0 0", "append a a\nappend a a", 2))

    def test_a_refused_row_is_not_taken_back(self):
        house = House(begun("a 0; opened"))
        house.do(Append("a", "a"))
        self.assertRaises(Stops, house.do, If(Full("a"), [Pop("a"), Pop("a")]))
        self.assertIs(house.undo(), True)
        self.assertEqual(told(house), (("a",), (), "a 0\nopened", "", 0))

    def test_guards_are_not_taken_back_nor_looked_at(self):
        house = House(begun("a 0; b 0; opened"))
        house.do(Append("a", "a"))
        house.guard("b")
        self.assertEqual(len(house), 1)
        self.assertIs(house.undo(), True)
        self.assertEqual(told(house), (("a", "b"), ("b",), "a 0\nb 0\nopened", "", 0))
        self.assertRaises(Guarded, house.do, Append("a", "a"))
        house.do(Append("b", "a"))
        house.guard("a")
        self.assertIs(house.undo(), True)
        self.assertEqual(house.guarded, ("a", "b"))
        self.assertIs(house.undo(), False)


class GuardTest(unittest.TestCase):
    def test_guarded_names(self):
        house = house_at(THREE)
        for guard, name, wanted in [
            (True, "b", ("b",)), (True, "a", ("a", "b")), (True, "b", ("a", "b")), (False, "c", ("a", "b")),
            (True, "c", ("a", "b", "c")),
            (False, "a", ("b", "c")), (False, "a", ("b", "c")), (False, "c", ("b",)), (True, "b", ("b",)),
            (False, "b", ()), (False, "b", ()),
        ]:
            self.assertIsNone((house.guard if guard else house.release)(name))
            self.assertEqual(house.guarded, wanted)
            self.assertIs(type(house.guarded), tuple)
            self.assertEqual((len(house), house.start()), (0, begun(THREE)))

    def test_other_names(self):
        house = house_at(THREE, "a")
        for name in ("d", "aa", "zzzz"):
            for work in (house.guard, house.release):
                with self.assertRaises(NoName) as caught:
                    work(name)
                self.assertEqual(caught.exception.name, name)
                self.assertEqual(house.guarded, ("a",))

    def test_released_names_are_guarded_no_more(self):
        house = house_at("a 0; b 0; opened", "a", "b")
        self.assertRaises(Guarded, house.do, Append("a", "a"))
        house.release("b")
        house.do(Append("a", "a"))
        self.assertRaises(Guarded, house.do, Append("b", "a"))
        house.release("a")
        house.do(Append("b", "a"))
        self.assertEqual(str(house.start()), "a 0\nb 0\nopened 0 0")

    def test_a_guard_goes_with_the_name(self):
        house = house_at("a 0; b 0; c 1; opened; opened", "b")
        house.do(Let("b", "c"))
        house.do(Append("a", "a"))
        with self.assertRaises(Guarded):
            house.do(Append("c", "a"))
        house.do(Let("a", "b"))
        with self.assertRaises(Guarded):
            house.do(Append("a", "a"))
        self.assertEqual(len(house), 3)


class Broken(Exception):
    pass


class TrialTest(unittest.TestCase):
    def setUp(self):
        self.house = house_at(THREE, "b")
        self.house.do(Append("a", "a"))
        self.house.do(Swap("a", "b"))
        self.before = told(self.house)

    def check_as_before(self):
        """The house is as before, also what can be taken back."""
        self.assertEqual(told(self.house), self.before)
        self.assertEqual([one[2:] for one in all_told(self.house)], [
            (self.before[2], "append a a\nswap a b", 2),
            (lines("a 0; b 1; c 0; opened 1 0; opened 2; frozen"), "append a a", 1), (lines(THREE), "", 0)])

    def change(self, house):
        """Changes all that can be changed."""
        for _ in range(3):
            house.undo()
        house.release("b")
        house.guard("a")
        house.guard("c")
        house.do(Let("c", "b"))
        house.do(New("a", "b", "b"))

    def test_trial(self):
        with self.house.trial() as house:
            self.assertIs(house, self.house)
            self.assertEqual(told(house), self.before)
            self.change(house)
            self.assertEqual(told(house)[1:], (
                ("a", "c"), lines("a 0; b 1; c 1; opened 1 1; opened 2; frozen"), "let c b\nnew a b b", 2))
        self.check_as_before()

    def test_nothing_done(self):
        with self.house.trial():
            pass
        self.check_as_before()

    def test_undone_only(self):
        with self.house.trial() as house:
            self.assertEqual([house.undo() for _ in range(3)], [True, True, False])
        self.check_as_before()

    def test_an_error_goes_on(self):
        for error in (Broken("x"), Stops(3), ValueError(), KeyboardInterrupt()):
            with self.assertRaises(type(error)) as caught:
                with self.house.trial() as house:
                    self.change(house)
                    raise error
            self.assertIs(caught.exception, error)
            self.assertEqual(told(self.house), self.before)
        with self.assertRaises(Stops) as caught:
            with self.house.trial() as house:
                house.do(Seal("a"))
                house.do(Clear("a"))
        self.assertEqual(caught.exception.at, 0)
        self.check_as_before()

    def test_left_by_other_ways(self):
        def work():
            with self.house.trial() as house:
                self.change(house)
                return len(house)

        self.assertEqual(work(), 2)
        for _ in range(2):
            with self.house.trial() as house:
                self.change(house)
                continue
        self.check_as_before()

    def test_as_it_was_when_the_block_was_entered(self):
        trial = self.house.trial()
        self.house.do(Let("c", "a"))
        self.house.guard("a")
        self.before = told(self.house)
        with trial as house:
            self.assertEqual(told(house), self.before)
            self.change(house)
        self.assertEqual(told(self.house), self.before)
        self.house.undo()
        self.house.release("a")
        self.before = told(self.house)
        self.check_as_before()

    def test_one_within_another(self):
        with self.house.trial() as house:
            house.do(Let("c", "b"))
            house.guard("c")
            between = told(house)
            with house.trial() as inner:
                self.assertIs(inner, house)
                self.change(inner)
                with self.assertRaises(Broken):
                    with inner.trial() as innermost:
                        innermost.do(Let("a", "b"))
                        self.assertEqual(len(innermost), 3)
                        raise Broken
                self.assertEqual(len(inner), 2)
            self.assertEqual(told(house), between)
            rows = [New("a"), New("b"), New("c")]
            self.assertEqual(house.tried(rows), begun("a 0; b 1; c 2; opened; opened; opened"))
            self.assertEqual(told(house), between)
        self.check_as_before()

    def test_each_trial_is_a_new_one(self):
        one, other = self.house.trial(), self.house.trial()
        self.assertIsNot(one, other)
        with one:
            self.house.do(New("a"))
            with other:
                self.change(self.house)
            self.assertEqual(str(self.house.program()), "append a a\nswap a b\nnew a")
        self.check_as_before()

    def test_guards_hold_within(self):
        with self.house.trial() as house:
            house.do(Let("a", "b"))
            self.assertRaises(Guarded, house.do, Append("a", "a"))
            house.release("b")
            house.do(Append("a", "a"))
        self.check_as_before()

    def test_within(self):
        def work(house):
            self.assertIs(house, self.house)
            self.assertEqual(told(house), self.before)
            self.change(house)
            return house.start(), ["x"]

        start, more = self.house.within(work)
        self.assertEqual((str(start), more), (lines("a 0; b 1; c 1; opened 1 1; opened 2; frozen"), ["x"]))
        self.assertIsNone(self.house.within(self.change))
        self.assertIs(self.house.within(lambda house: house), self.house)
        self.assertEqual(self.house.within(lambda house: house.within(lambda inner: inner.undo())), True)
        self.check_as_before()

    def test_errors_within(self):
        def work(house):
            self.change(house)
            raise Broken

        self.assertRaises(Broken, self.house.within, work)
        self.assertRaises(NoName, self.house.within, lambda house: house.do(Clear("d")))
        self.check_as_before()

    def test_tried(self):
        for rows in ([Append("a", "a"), Let("c", "a"), New("b")], (EITHER,), [], ()):
            wanted = run(Program(list(rows)), self.house.start())
            found = self.house.tried(rows)
            self.assertIs(type(found), Start)
            self.assertEqual(found, start_at("abc", wanted.holders, wanted.lists, wanted.frozen))
            self.assertEqual(told(self.house), self.before)
        rows = [Let("c", "a"), New("b")]
        self.house.tried(rows)
        self.assertEqual(rows, [Let("c", "a"), New("b")])
        self.check_as_before()

    def test_errors_of_tried(self):
        for rows, error in [
            ([New("a"), Pop("a")], Stops), ([Let("a", "b"), Clear("d")], NoName), ([Let("a", "b"), None], InvalidRow),
            ([Let("a", "b"), Append("a", "b"), Clear("d")], Guarded),
            ([Let("a", "b"), Seal("a"), Clear("a"), 0], Stops),
            (["clear a"], InvalidRow),
        ]:
            self.assertRaises(error, self.house.tried, rows)
            self.assertEqual(told(self.house), self.before)
        self.check_as_before()


def guarded_again(held, made, guarded):
    """Does a row on boxes; the guarded names whose lists rows of other names change. None if it stops."""
    if isinstance(made, If):
        found = set()
        for one in made.rows if model.is_met(held, made.test) else made.others:
            more = guarded_again(held, one, guarded)
            if more is None:
                return None
            found |= more
        return found
    before = {name: (held[name], list(held[name].items)) for name in guarded if name != made.name}
    if model.do_all(held, [made]) is not None:
        return None
    return {name for name, (box, items) in before.items()
            if len(items) != len(box.items) or any(one is not other for one, other in zip(items, box.items))}


class RandomTest(unittest.TestCase):
    def state(self, start, rows):
        """The start that rows lead to, as the model tells."""
        boxes, held = model.boxes_of(start)
        self.assertIsNone(model.do_all(held, rows))
        return start_at(start.names, *model.told([], held))

    def refusal(self, start, rows, made, guarded):
        """The error that a row raises behind other ones, and its argument; None if it is done."""
        strange = [name for name in made.names if name not in start.names]
        if strange:
            return NoName, strange[0]
        boxes, held = model.boxes_of(start)
        model.do_all(held, rows)
        found = guarded_again(held, made, guarded)
        if found is None:
            return Stops, 0
        return (Guarded, min(found)) if found else None

    def step(self, some, house, start, rows, guarded):
        """Does something to a house, and the same to what is known of it."""
        way = some.random()
        name = some.choice("abc" if way < 0.98 else "abcd")
        if way < 0.68:
            made = model.some_row(some, "abc" if way < 0.66 else "abcd", 2)
            wanted = self.refusal(start, rows, made, guarded)
            if wanted is None and (len(house.start()) < 60 or isinstance(made, (Clear, Pop, Shift))):
                house.do(made)
                rows.append(made)
            elif wanted is not None:
                with self.assertRaises(wanted[0]) as caught:
                    house.do(made)
                self.assertEqual(list(vars(caught.exception).values()), [wanted[1]])
                return wanted[0]
        elif way < 0.84:
            self.assertIs(house.undo(), len(rows) > 0)
            del rows[-1:]
        elif name == "d":
            self.assertRaises(NoName, house.guard if some.random() < 0.5 else house.release, name)
        elif way < 0.93:
            house.guard(name)
            guarded.add(name)
        else:
            house.release(name)
            guarded.discard(name)
        return None

    def check(self, house, start, rows, guarded):
        self.assertEqual(house.start(), self.state(start, rows))
        self.assertEqual(house.program(), Program(rows))
        self.assertEqual((len(house), house.guarded), (len(rows), tuple(sorted(guarded))))

    def walk(self, some, house, start, rows, guarded, depth, found):
        for _ in range(some.randint(1, 25)):
            error = self.step(some, house, start, rows, guarded)
            found[error] = found.get(error, 0) + 1
            self.check(house, start, rows, guarded)
            if depth and some.random() < 0.1:
                inner, names = list(rows), set(guarded)
                if some.random() < 0.5:
                    with house.trial():
                        self.walk(some, house, start, inner, names, depth - 1, found)
                else:
                    with self.assertRaises(Broken):
                        with house.trial():
                            self.walk(some, house, start, inner, names, depth - 1, found)
                            raise Broken
                self.check(house, start, rows, guarded)

    def test_random_houses(self):
        some = random.Random(36)
        found = {}
        starts = model.few_starts(("a", "b", "c"), 2)
        for _ in range(200):
            start = some.choice(starts)
            self.walk(some, House(start), start, [], set(), 2, found)
        self.assertGreater(min(found[error] for error in (None, NoName, Stops, Guarded)), 15)

    def test_rows_and_programs_agree(self):
        some = random.Random(37)
        starts = model.few_starts(("a", "b"), 2)
        found = {True: 0, False: 0}
        for _ in range(200):
            start, made = some.choice(starts), model.some_program(some, "ab", 5, 3, 2)
            outcome = run(made, start)
            house = House(start)
            if outcome.stopped:
                self.assertRaises(Stops, house.tried, made.rows)
                self.assertEqual(told(house), (start.names, (), str(start), "", 0))
            else:
                wanted = start_at("ab", outcome.holders, outcome.lists, outcome.frozen)
                self.assertEqual(house.tried(made.rows), wanted)
                for one in made.rows:
                    house.do(one)
                self.assertEqual((house.start(), house.program()), (wanted, made))
            found[outcome.stopped] += 1
        self.assertGreater(min(found.values()), 20)
