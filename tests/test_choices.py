"""Points 11 and 31 to 34: which rows may be new lists, which copies are needed, what can be left out."""

import itertools
import random
import unittest

import model
from samelists.alike import alike, least_start
from samelists.choices import (
    copies_needed, fewest_copies, fewest_rows, idle_rows, may_be_new, may_change_places, most_new,
)
from samelists.errors import NoRow
from samelists.programs import Program
from samelists.rows import Copy, Extend, Join, Let, Repeat, Times
from samelists.starts import Start


def lines(text):
    return text.replace("; ", "\n")


def program(text):
    return Program.read(lines(text))


ALL_KINDS = program(
    "let a b; swap a b; new a b; seal a b; join a a b; times a a 2; copy a b; extend a b; repeat a 2; append a b; "
    "prepend a b; clear a; turn a; if same a b; assign a b; else; if open a; repeat b 0; end; end")
# The numbers of its rows `Extend` and `Repeat`.
GROWING = (7, 8, 16)
EITHER = "if open a; extend a b; else; extend a b; end"
COPIES = "if open a; copy b a; else; copy b a; end; extend a a"

# Rows, a number, what is passed further, and whether the row with this number may be new.
NEW = [
    ("extend a b", 0, {}, False), ("extend a b", 0, {"seen": ["a"]}, True), ("extend a b", 0, {"seen": []}, True),
    ("extend a b", 0, {"seen": ["b"]}, False), ("extend a b", 0, {"seen": ["b"], "apart": [("a", "b")]}, True),
    ("extend a b", 0, {"seen": ["a", "b"]}, False), ("extend a a", 0, {"seen": ["a"]}, True),
    ("repeat a 0", 0, {}, False), ("repeat a 1", 0, {}, False), ("repeat a 1", 0, {"seen": ["b", "a"]}, True),
    ("repeat a 0", 0, {"seen": ["b"]}, False), ("repeat a 0", 0, {"seen": ["b"], "apart": (["b", "a"],)}, True),
    # In the place of a list that is new itself, and of frozen ones.
    ("new a; extend a b", 1, {}, True), ("new a; repeat a 3", 1, {}, True),
    ("new a; let b a; extend a c", 2, {}, False),
    ("seal a b; repeat a 3", 1, {}, True), ("seal a; let c a; extend a b", 2, {}, True),
    # Within blocks.
    (EITHER, 1, {}, False), (EITHER, 2, {}, True), ("if open a; repeat a 2; else; repeat a 3; end", 1, {}, False),
    ("if open a; repeat a 2; else; repeat a 3; end", 2, {}, True),
    ("if open a; if full b; new a b; repeat a 2; end; end", 3, {}, True),
    ("if same b b; else; extend a b; end; repeat a 2", 1, {}, True),
    ("if same b b; else; extend a b; end; repeat a 2", 2, {}, False),
    # What comes behind counts, too.
    ("extend a b; clear a", 0, {"seen": ["a"]}, True), ("extend a b; clear a", 0, {}, False),
    ("repeat a 2; pop a", 0, {"seen": ["a"]}, True), ("repeat a 2; first b a", 0, {"seen": ["a"]}, True),
    ("repeat a 0; append b c", 0, {"seen": ["a"]}, False), ("extend a b; append b c", 0, {"seen": ["b"]}, False),
    # Further names.
    ("extend a b", 0, {"seen": ["c"]}, False), ("extend a b", 0, {"seen": ["c"], "apart": [("a", "c")]}, True),
    ("extend a b", 0, {"seen": ["c", "b"], "apart": [("a", "c")]}, False),
    ("repeat b 2", 0, {"seen": ["a"], "apart": [("a", "c"), ("b", "c")]}, False),
    # There are no such starts.
    ("extend a b", 0, {"apart": [("a", "a")]}, True), ("repeat a 0", 0, {"apart": [("b", "c"), ("c", "c")]}, True),
]

# Rows, what is passed further, and the greatest set of rows that may be new at once.
MOST_NEW = [
    ("", {}, ()), ("let a b; append a b", {}, ()), ("extend a b", {}, ()), ("extend a b", {"seen": ["a"]}, (0,)),
    ("extend a b; extend a b", {"seen": ["a"]}, (1,)), ("extend a b; extend a b", {"seen": ["b"]}, ()),
    ("extend a b; extend b a", {"seen": ["b"], "apart": [("a", "b")]}, (0, 1)),
    ("extend a b; extend b a", {"seen": ["b"]}, (1,)), ("extend a a; repeat a 3", {"seen": ["a"]}, (0, 1)),
    ("new a; extend a b; repeat a 2; extend b a", {}, (1, 2)),
    ("new a; extend a b; repeat a 2; extend b a", {"seen": ("a",)}, (1, 2, 3)),
    ("if open a; new b a; repeat b 2; else; extend a b; end; new b", {}, (2, 3)),
    # Of several the least one: either may be new, but not both.
    ("let b a; repeat a 0; repeat b 0", {"seen": ["c"]}, (1,)),
    ("new d; let b a; repeat d 1; repeat a 0; repeat b 0", {"seen": ["c"]}, (2, 3)),
    ("let b a; repeat a 0; repeat b 0", {"seen": ["c"], "apart": [("c", "a")]}, (1, 2)),
    # Both at once, but not the second one alone.
    ("repeat b 0; append a c; repeat a 0", {"seen": ["b"]}, (0, 2)),
    ("extend a b; clear a; repeat b 0", {"apart": [("c", "c")]}, (0, 2)),
]

# Rows, what is passed further, and the copies that are needed, with the least starts.
COPIES_NEEDED = [
    ("", {}, []), ("let b a", {}, []), ("copy b a", {}, [(0, "a 0; b 0; opened")]),
    ("copy b a", {"seen": ["a", "b"]}, []),
    ("copy a a", {}, [(0, "a 0; opened")]), ("copy a a", {"seen": ["a"]}, []), ("copy b a; new b", {}, []),
    ("copy b a; append b c", {}, [(0, "a 0; b 0; c 0; opened")]), ("copy b a; append b c", {"seen": ["b"]}, []),
    ("copy b a; append b c", {"seen": ["a"]}, [(0, "a 0; b 0; c 0; opened")]),
    ("copy b a; append b c", {"seen": ["a"], "apart": [("c", "a")]}, [(0, "a 0; b 0; c 1; opened; opened")]),
    # Further names.
    ("copy b a; append b c", {"seen": ["d"]}, [(0, "a 0; b 0; c 0; d 0; opened")]),
    ("copy b a; append b c", {"seen": ["d"], "apart": [("d", "a")]}, []),
    ("copy b a; append b b", {"seen": ["a"], "apart": [("a", "c")]}, [(0, "a 0; b 0; c 1; opened; opened")]),
    # A copy of a frozen list is that list.
    ("seal b a; copy a b", {}, []), (COPIES, {}, [(1, "a 0; b 0; opened")]),
    (COPIES, {"seen": ["b"]}, [(1, "a 0; b 0; opened 0")]),
    # Of several the least one: either is enough.
    ("copy b a; copy c b; append c d", {"seen": ["a", "c"]}, [(0, "a 0; b 0; c 0; d 0; opened")]),
    ("copy b a; copy c b; append c d", {"seen": ["a", "b", "c"]}, [(1, "a 0; b 0; c 0; d 0; opened")]),
    ("copy c c; copy b a; copy c b; append c d", {"seen": ["a", "c"]}, [(1, "a 0; b 0; c 0; d 0; opened")]),
    ("copy b a; copy c a; clear a", {"seen": ["b", "c"]},
     [(0, "a 0; b 0; c 0; opened 0"), (1, "a 0; b 0; c 0; opened 0")]),
    ("copy b a; copy c b; append b a; append c a", {"seen": ["a", "b", "c"]},
     [(0, "a 0; b 0; c 0; opened"), (1, "a 0; b 0; c 0; opened")]),
    ("copy b a; copy a b", {"seen": []}, []), ("copy b a; append b c", {"apart": [("b", "b")]}, []),
]

# Rows, what is passed further, the numbers of the idle ones, and the fewest rows.
IDLE = [
    ("", {}, (), ""), ("let a a", {}, (0,), ""), ("clear a; clear a", {}, (0, 1), "clear a"),
    ("clear a", {}, (), "clear a"), ("let a b; let b a", {}, (1,), "let a b"), ("swap a b; swap a b", {}, (), ""),
    ("turn a; turn a", {}, (), "turn a; turn a"), ("turn a; turn a; turn a", {}, (), "turn a"),
    ("new a; new b; new a", {}, (0, 2), "new a; new b"), ("pop a", {"seen": []}, (), "pop a"),
    ("append a b; clear a", {}, (0,), "clear a"), ("append a b; append a c; pop a", {}, (), "append a b"),
    # With the rows of blocks.
    ("if open a; let a a; end", {}, (0, 1), ""), ("if same a b; let a b; end; append a b", {}, (0, 1), "append a b"),
    ("if open a; let a a; else; clear a; end", {}, (1,), "if open a; let a a; else; clear a; end"),
    ("if full a; if open b; let c c; end; new c; end", {}, (1, 2), "if full a; if open b; let c c; end; new c; end"),
    # All rows are counted, those of blocks, too.
    ("if open a; clear a; else; clear a; end; clear a", {}, (0, 1, 2, 3), "clear a"),
    ("if open a; turn a; turn a; end; if open a; if open a; turn a; turn a; end; end", {"seen": ["b"]},
     (0, 3, 4), ""),
    # Of several the one with the least places.
    ("copy a b; let a b", {"seen": ["a"]}, (0, 1), "copy a b"),
    ("let a b; copy a b", {"seen": ["a"]}, (0, 1), "let a b"),
    ("append a b; clear a", {"seen": ["b"], "apart": [("a", "b")]}, (0, 1), "append a b"),
    ("seal b; append a b; clear a", {"seen": ["c"], "apart": [("a", "c")]}, (0, 1, 2), "append a b"),
    # Further names.
    ("let a b", {"seen": ["c"]}, (0,), ""), ("clear b", {"seen": ["c"], "apart": [("c", "b")]}, (), "clear b"),
    ("if open b; clear b; end", {"seen": ["c"]}, (), "if open b; clear b; end"),
    ("if open b; clear b; end", {"seen": ["c"], "apart": [("c", "b")]}, (0, 1), ""),
    ("let a b; new c", {"seen": ["a"]}, (1,), "let a b"), ("let a b; new c", {"apart": [("d", "d")]}, (0, 1), ""),
]

# Rows, a place, what is passed further, and whether the rows at this place and the next one may be exchanged.
PLACES = [
    ("let a b; let b a", 0, {}, False), ("new a; new b", 0, {}, True), ("pop a; shift a", 0, {}, True),
    ("append a b; prepend a c", 0, {}, True), ("append a b; append a c", 0, {}, False),
    ("append a b; append a c", 0, {"seen": ["b"]}, False), ("append a c; append b c", 0, {}, False),
    ("append a c; append b c", 0, {"seen": []}, True), ("swap a b; swap b c", 0, {}, False),
    ("append a b; append a c", 0, {"seen": ["b"], "apart": [("b", "a")]}, True),
    ("new b; let a b; let c b", 1, {}, True), ("new b; let a b; let c b", 0, {}, False),
    # Places are those of `rows`; a block goes with all rows in it.
    ("if open a; clear a; end; let b a", 0, {}, True), ("let b a; if open a; clear a; end; new c", 1, {}, True),
    ("let b a; if open a; clear a; end; new c", 0, {}, True), ("if open a; new a; end; let b a", 0, {}, False),
    # Further names.
    ("let a b; turn b", 0, {"seen": ["c"]}, True), ("clear a; append b b", 0, {"seen": ["c"]}, False),
    ("clear a; append b b", 0, {"seen": ["c"], "apart": [("a", "b")]}, False),
    ("clear a; append b b", 0, {"seen": ["c"], "apart": [("a", "c"), ("b", "c")]}, True),
    ("clear a; clear b", 0, {"apart": [("c", "c")]}, True),
]


class MayBeNewTest(unittest.TestCase):
    def test_some(self):
        for rows, at, told, wanted in NEW:
            with self.subTest(rows, at=at, **told):
                self.assertIs(may_be_new(program(rows), at, **told), wanted)

    def test_a_row_of_another_kind(self):
        for at in range(len(ALL_KINDS)):
            if at in GROWING:
                self.assertIs(type(may_be_new(ALL_KINDS, at)), bool)
            else:
                with self.assertRaises(NoRow) as caught:
                    may_be_new(ALL_KINDS, at)
                self.assertEqual(caught.exception.at, at)

    def test_no_row(self):
        for rows in ("", "extend a b", EITHER, "repeat a 2; repeat a 2"):
            made = program(rows)
            for at in (-1, -2, -len(made), len(made), len(made) + 1, 10 ** 30, -10 ** 30):
                if not 0 <= at < len(made):
                    with self.assertRaises(NoRow) as caught:
                        may_be_new(made, at)
                    self.assertEqual(caught.exception.at, at)
        # Also where all programs are alike.
        self.assertRaises(NoRow, may_be_new, program("extend a b"), 1, apart=[("a", "a")])
        self.assertRaises(NoRow, may_be_new, program("let a b"), 0, apart=[("a", "a")])


class MostNewTest(unittest.TestCase):
    def test_some(self):
        for rows, told, wanted in MOST_NEW:
            with self.subTest(rows, **told):
                found = most_new(program(rows), **told)
                self.assertEqual(found, wanted)
                self.assertIs(type(found), tuple)


class CopiesTest(unittest.TestCase):
    def test_some(self):
        for rows, told, wanted in COPIES_NEEDED:
            with self.subTest(rows, **told):
                made = program(rows)
                self.assertEqual(fewest_copies(made, **told), tuple(at for at, _ in wanted))
                found = copies_needed(made, **told)
                self.assertEqual([(at, str(start)) for at, start in found], [(at, lines(text)) for at, text in wanted])
                self.assertIs(type(found), tuple)
                for pair in found:
                    self.assertIs(type(pair), tuple)
                    self.assertIsInstance(pair[1], Start)

    def test_each_start_parts_what_it_should(self):
        for rows, told, _ in COPIES_NEEDED:
            made = program(rows)
            kept = fewest_copies(made, **told)
            for at, start in copies_needed(made, **told):
                fewer = with_lets(made, [other for other in kept if other != at])
                with self.subTest(rows, at=at, **told):
                    self.assertNotEqual(model.compared(made, start, told.get("seen")),
                                        model.compared(fewer, start, told.get("seen")))
                    self.assertEqual(start, least_start(made, fewer, **told))


class RowsTest(unittest.TestCase):
    def test_some(self):
        for rows, told, idle, fewest in IDLE:
            with self.subTest(rows, **told):
                made = program(rows)
                self.assertEqual(idle_rows(made, **told), idle)
                self.assertIs(type(idle_rows(made, **told)), tuple)
                found = fewest_rows(made, **told)
                self.assertEqual(str(found), lines(fewest))
                self.assertIsInstance(found, Program)
                self.assertTrue(found.is_part_of(made))

    def test_without_is_told_row_by_row(self):
        made = program("if open a; clear a; else; clear a; end; clear a; let b b")
        self.assertEqual(idle_rows(made), (0, 1, 2, 3, 4))
        self.assertEqual(idle_rows(made, seen=["a"], apart=[("a", "b")]), (0, 1, 2, 3, 4))


class PlacesTest(unittest.TestCase):
    def test_some(self):
        for rows, at, told, wanted in PLACES:
            with self.subTest(rows, at=at, **told):
                self.assertIs(may_change_places(program(rows), at, **told), wanted)

    def test_no_row(self):
        for rows, many in [("", 0), ("let a b", 1), ("let a b; let b a", 2), ("if open a; clear a; clear a; end", 1),
                           ("let a b; if open a; clear a; clear a; end; let b a", 3)]:
            made = program(rows)
            self.assertEqual(len(made.rows), many)
            for at in (-10 ** 30, -many - 1, -many, -2, -1, many - 1, many, many + 1, len(made), 10 ** 30):
                if not 0 <= at < many - 1:
                    with self.subTest(rows, at=at), self.assertRaises(NoRow) as caught:
                        may_change_places(made, at)
                    self.assertEqual(caught.exception.at, at)
        self.assertRaises(NoRow, may_change_places, program("let a b"), 0, apart=[("a", "a")])


class ArgumentsTest(unittest.TestCase):
    def test_by_name(self):
        made = program("extend a b; copy c a")
        seen, apart = ["b", "c", "b"], [["a", "b"]]
        self.assertIs(may_be_new(program=made, at=0, seen=seen, apart=apart), True)
        self.assertIs(may_change_places(program=made, at=0, seen=seen, apart=apart), False)
        for function, wanted in [(most_new, (0,)), (fewest_copies, ()), (copies_needed, ()), (idle_rows, ()),
                                 (fewest_rows, made)]:
            self.assertEqual(function(program=made, seen=seen, apart=apart), wanted)
            self.assertEqual(function(made, seen=tuple(seen), apart=tuple(map(tuple, apart))), wanted)
        self.assertEqual((seen, apart), (["b", "c", "b"], [["a", "b"]]))
        self.assertEqual(made, program("extend a b; copy c a"))

    def test_by_name_only(self):
        made = program("extend a b; copy c a")
        for function in (most_new, fewest_copies, copies_needed, idle_rows, fewest_rows):
            self.assertRaises(TypeError, function, made, ["a"])
            self.assertRaises(TypeError, function, made, ["a"], [])
        for function in (may_be_new, may_change_places):
            self.assertRaises(TypeError, function, made, 0, ["a"])
            self.assertRaises(TypeError, function, made, 0, ["a"], [])

    def test_programs_at_the_limits(self):
        growing = program("extend a b; extend b c; extend c d; repeat a 2; repeat b 3; new d a")
        self.assertEqual(most_new(growing), ())
        self.assertEqual(most_new(growing, seen=["d"]), (1, 2, 4))
        self.assertEqual(most_new(growing, seen=[]), (0, 1, 2, 3, 4))
        copies = program("copy b a; copy c b; copy d c; copy a d; copy b a; copy c b")
        # Four new lists at the end, other than that of a at the start: of the first three copies one is enough.
        self.assertEqual(fewest_copies(copies), (0, 3, 4, 5))
        self.assertEqual(fewest_copies(copies, seen=["a", "b", "c", "d"]), ())
        asking = program("pop a; append a a; pop a; turn a; turn a; append a a")
        self.assertEqual(asking.asks, 2)
        self.assertEqual(str(fewest_rows(asking)), lines("pop a; append a a"))
        self.assertEqual(idle_rows(asking), ())


def with_lets(made, kept):
    """The program with `Let` in the place of all copies but those with these numbers."""
    for at in range(len(made)):
        if isinstance(made[at], Copy) and at not in kept:
            made = made.replaced(at, Let(made[at].name, made[at].other))
    return made


def with_new(made, chosen):
    """The program with new lists in the rows with these numbers."""
    for at in chosen:
        row = made[at]
        new = Join(row.name, row.name, row.other) if isinstance(row, Extend) else Times(row.name, row.name, row.count)
        made = made.replaced(at, new)
    return made


def subsets(numbers):
    """All tuples of these numbers, in order."""
    return [chosen for size in range(len(numbers) + 1) for chosen in itertools.combinations(numbers, size)]


class AgainstAllStartsTest(unittest.TestCase):
    """What is told of drawn programs, held against runs of the model from all starts with few items."""

    def setUp(self):
        self.found = {}
        # The starts meant and the outcomes of the program that was looked at last.
        self.known = {}

    def least(self, made, other, told):
        """The least start at which two programs part; the other one has no further names."""
        key = (str(made), str(told))
        if key not in self.known:
            names = model.names_of(made, made, **told)
            starts = model.few_starts(tuple(names), 2 * made.asks + 2) if names else []
            meant = [start for start in starts if all(start[one] != start[two] for one, two in told["apart"])]
            self.known = {key: [(start, model.compared(made, start, told["seen"])) for start in meant]}
        for start, wanted in self.known[key]:
            if model.compared(other, start, told["seen"]) != wanted:
                return start
        return None

    def is_alike(self, made, other, told):
        return self.least(made, other, told) is None

    def count(self, word, wanted):
        self.found.setdefault(word, {})
        self.found[word][wanted] = self.found[word].get(wanted, 0) + 1

    def check_new(self, made, told):
        numbers = [at for at in range(len(made)) if isinstance(made[at], (Extend, Repeat))]
        good = {chosen: self.is_alike(made, with_new(made, chosen), told) for chosen in subsets(numbers)}
        for at in numbers:
            self.assertIs(may_be_new(made, at, **told), good[at,])
        most = min((chosen for chosen in good if good[chosen]), key=lambda chosen: (-len(chosen), chosen))
        self.assertEqual(most_new(made, **told), most)
        self.count("new", (len(most), len(numbers)))

    def check_copies(self, made, told):
        numbers = [at for at in range(len(made)) if isinstance(made[at], Copy)]
        least = {kept: self.least(made, with_lets(made, kept), told) for kept in subsets(numbers)}
        fewest = min((kept for kept in least if least[kept] is None), key=lambda kept: (len(kept), kept))
        self.assertEqual(fewest_copies(made, **told), fewest)
        pairs = [(at, least[tuple(other for other in fewest if other != at)]) for at in fewest]
        self.assertEqual(copies_needed(made, **told), tuple(pairs))
        self.count("copies", (len(fewest), len(numbers)))

    def check_rows(self, made, told):
        idle = tuple(at for at in range(len(made)) if self.is_alike(made, made.without(at), told))
        self.assertEqual(idle_rows(made, **told), idle)
        parts = [(Program([made.rows[at] for at in places]), places) for places in subsets(range(len(made.rows)))]
        good = [(len(part), places, str(part)) for part, places in parts if self.is_alike(made, part, told)]
        self.assertEqual(str(fewest_rows(made, **told)), min(good)[2])
        self.count("rows", (min(good)[0], len(made)))

    def check_places(self, made, told):
        for at in range(len(made.rows) - 1):
            rows = list(made.rows)
            rows[at:at + 2] = rows[at:at + 2][::-1]
            wanted = self.is_alike(made, Program(rows), told)
            self.assertIs(may_change_places(made, at, **told), wanted)
            self.count("places", wanted)

    def some_told(self, some, names):
        seen = None if some.random() < 0.4 else some.choices(names, k=some.randint(0, 2))
        return {"seen": seen, "apart": [] if some.random() < 0.7 else [some.sample(names, 2)]}

    def draw(self, some, kinds, names, size, asks=0):
        """Some program with several rows of some kinds in it."""
        while True:
            made = model.some_program(some, names, size, asks, 1)
            rows = [made[at] for at in range(len(made))]
            if len(rows) <= 6 and len([row for row in rows if isinstance(row, kinds)]) >= 2:
                return made

    def check_some(self, seed, many, kinds, check):
        some = random.Random(seed)
        for turn in range(many):
            names = "abc" if turn % 20 == 0 else "ab"
            made = self.draw(some, kinds, names, 3 if names == "abc" else 5)
            told = self.some_told(some, names)
            with self.subTest(str(made), **told):
                check(made, told)

    def test_new_rows(self):
        self.check_some(31, 120, (Extend, Repeat), self.check_new)
        found = self.found["new"]
        self.assertGreater(sum(found[key] for key in found if key[0] == 0), 10)
        self.assertGreater(sum(found[key] for key in found if 0 < key[0] < key[1]), 5)
        self.assertGreater(sum(found[key] for key in found if key[0] == key[1]), 10)

    def test_copies(self):
        self.check_some(32, 120, (Copy,), self.check_copies)
        found = self.found["copies"]
        self.assertGreater(sum(found[key] for key in found if key[0] == 0), 10)
        self.assertGreater(sum(found[key] for key in found if 0 < key[0] < key[1]), 5)
        self.assertGreater(sum(found[key] for key in found if key[0] == key[1]), 2)

    def test_rows_and_places(self):
        self.check_some(33, 100, object, self.check_rows)
        self.check_some(34, 100, object, self.check_places)
        found = self.found["rows"]
        self.assertGreater(sum(found[key] for key in found if key[0] == 0), 5)
        self.assertGreater(sum(found[key] for key in found if 0 < key[0] < key[1]), 10)
        self.assertGreater(sum(found[key] for key in found if key[0] == key[1]), 5)
        self.assertGreater(min(self.found["places"].values()), 20)

    def test_programs_that_ask(self):
        some = random.Random(35)
        for _ in range(10):
            made = self.draw(some, object, "a", 4, 1)
            told = {"seen": some.choice([None, None, ["a"]]), "apart": []}
            with self.subTest(str(made), **told):
                self.check_new(made, told)
                self.check_copies(made, told)
                self.check_rows(made, told)
                self.check_places(made, told)


class AgreeingTest(unittest.TestCase):
    def test_greatest_and_fewest_of_all(self):
        """Point 11, with programs as great as may be, held against `alike` of all sets."""
        some = random.Random(36)
        for turn in range(160):
            names, asks = [("abcd", 0), ("abc", 1), ("ab", 1), ("a", 2)][turn % 4]
            while True:
                made = model.some_program(some, names, 6, asks, 2)
                if 4 <= len(made) <= 6:
                    break
            seen = None if some.random() < 0.4 else some.choices(names, k=some.randint(0, 3))
            told = {"seen": seen, "apart": []}
            rows = [made[at] for at in range(len(made))]
            with self.subTest(str(made), seen=seen):
                growing = [at for at, row in enumerate(rows) if isinstance(row, (Extend, Repeat))]
                good = [chosen for chosen in subsets(growing) if alike(made, with_new(made, chosen), **told)]
                self.assertEqual(most_new(made, **told), min(good, key=lambda chosen: (-len(chosen), chosen)))
                copies = [at for at, row in enumerate(rows) if isinstance(row, Copy)]
                good = [kept for kept in subsets(copies) if alike(made, with_lets(made, kept), **told)]
                self.assertEqual(fewest_copies(made, **told), min(good, key=lambda kept: (len(kept), kept)))
                parts = [(Program([made.rows[at] for at in places]), places)
                         for places in subsets(range(len(made.rows)))]
                good = [(len(part), places, str(part)) for part, places in parts if alike(made, part, **told)]
                self.assertEqual(str(fewest_rows(made, **told)), min(good)[2])
