"""Points 11 and 35: what can come of the runs of one program."""

import random
import unittest

import model
from samelists.programs import Program
from samelists.questions import can_be_one, can_change, stops, undoes
from samelists.starts import Start


def lines(text):
    return text.replace("; ", "\n")


def program(text):
    return Program.read(lines(text))


def text_of(start):
    return None if start is None else str(start)


BOTH = "a 0; b 0; opened"
TWO = "a 0; b 1; opened; opened"

# Rows, two names, pairs of names that are apart, and the two least starts.
ONES = [
    ("", "a b", (), BOTH, TWO), ("", "b a", (), BOTH, TWO), ("", "b a", [("a", "b")], None, TWO),
    ("let a b", "a b", (), BOTH, None), ("new a; let b a", "b a", (), BOTH, None), ("new a", "a b", (), None, BOTH),
    ("copy a b", "a b", (), "a 0; b 0; frozen", BOTH), ("extend a a", "a b", (), BOTH, "a 0; b 0; frozen"),
    ("if same a b; new a; end", "a b", (), None, BOTH), ("swap a b", "b a", [["b", "a"]], None, TWO),
    ("if full a; let b a; end", "b a", [("a", "b")], "a 0; b 1; opened 0; opened", TWO),
    ("first a b", "a b", [("a", "b")], "a 0; b 1; opened; opened 1", TWO),
    ("last a a; last b b", "a b", [("b", "a")], "a 0; b 1; opened 1; opened", TWO),
    # A name with itself.
    ("", "a a", (), "a 0; opened", None), ("new a; pop a", "a a", (), "a 0; opened", None),
    ("clear b", "a a", (), BOTH, None), ("let a b", "a a", [("a", "b")], TWO, None),
    # Where the run stopped.
    ("first a b", "a b", (), BOTH, TWO),
    ("append a b; new b; pop a; pop a; let b a", "a b", (), "a 0; b 0; frozen", BOTH),
    ("clear a; new b", "a b", [("a", "b")], None, TWO), ("clear a; new b", "a b", (), "a 0; b 0; frozen", BOTH),
    ("first c a; first c c", "c a", (), "a 0; c 0; opened", "a 0; c 1; opened; opened"),
    # Names that the program has not.
    ("let a b", "b c", (), "a 0; b 0; c 0; opened", "a 0; b 0; c 1; opened; opened"),
    ("let a b", "d c", (), "a 0; b 0; c 0; d 0; opened", "a 0; b 0; c 0; d 1; opened; opened"),
    ("swap a b", "c d", [("c", "d")], None, "a 0; b 0; c 0; d 1; opened; opened"),
    ("extend a a; new c", "a b", [("a", "c")], "a 0; b 0; c 1; opened; opened", "a 0; b 1; c 1; opened; opened"),
    ("first c a; first c c", "c b", [("a", "c"), ("b", "c")], "a 0; b 0; c 1; opened 0; opened",
     "a 0; b 0; c 1; opened; opened"),
    # There are no such starts.
    ("", "a b", [("a", "a")], None, None), ("let a b", "a b", [("b", "c"), ("c", "c")], None, None),
]

# Rows, pairs of names that are apart, and the numbers of the rows that can stop, with the least starts.
STOPPING = [
    ("", (), []), ("", [("a", "b")], []), ("clear a", (), [(0, "a 0; frozen")]), ("pop a", (), [(0, "a 0; opened")]),
    ("let a b; swap a b; new a; seal b; join a a b; times a a 2; copy b a; extend a b; repeat a 2; if full a; end", (),
     []),
    ("first a a", (), [(0, "a 0; opened")]), ("seal a; last b a", (), [(1, BOTH)]),
    ("assign a a", (), [(0, "a 0; frozen")]),
    ("pop a; pop a; pop a", (), [(0, "a 0; opened"), (1, "a 0; opened 0"), (2, "a 0; opened 0 0")]),
    ("pop a; shift a; first b a", (), [(0, BOTH), (1, BOTH + " 0"), (2, BOTH + " 0 0")]),
    ("first b a; first b b; first b b", (),
     [(0, BOTH), (1, "a 0; b 0; opened 1; opened"), (2, "a 0; b 0; opened 1; opened 2; opened")]),
    # Rows that cannot stop, or not behind those ahead of them.
    ("head a b; tail a a", (), [(0, BOTH)]), ("append a a; pop a; pop a", (), [(0, "a 0; frozen"), (2, "a 0; opened")]),
    ("new a; pop a; clear b", (), [(1, BOTH)]), ("turn a; prepend a a; append a a", (), [(0, "a 0; frozen")]),
    # Within blocks, by the number of the very row.
    ("if open a; pop a; else; last b a; clear a; end; seal a; turn a", (),
     [(1, BOTH), (2, "a 0; b 0; frozen"), (3, "a 0; b 0; frozen 0"), (5, BOTH + " 0")]),
    ("if full a; else; first b a; end; assign b a", (), [(1, BOTH), (2, "a 0; b 0; frozen 0")]),
    ("seal a; if open b; append a b; end; append a b", (), [(2, BOTH), (3, "a 0; b 0; frozen")]),
    ("if same a b; clear a; end; clear a", (), [(1, "a 0; b 0; frozen"), (2, "a 0; b 1; frozen; opened")]),
    ("if same a b; clear a; end; clear a", [("a", "b")], [(2, "a 0; b 1; frozen; opened")]),
    # Where names are apart, further ones among them.
    ("clear a; clear b", (), [(0, "a 0; b 0; frozen"), (1, "a 0; b 1; opened; frozen")]),
    ("clear a; clear b", [("b", "a")], [(0, "a 0; b 1; frozen; opened"), (1, "a 0; b 1; opened; frozen")]),
    ("clear a; clear b", [("a", "c")],
     [(0, "a 0; b 0; c 1; frozen; opened"), (1, "a 0; b 1; c 1; opened; frozen")]),
    ("if full a; if same a b; last a a; turn a; end; end", [["c", "b"]], [(3, "a 0; b 0; c 1; frozen 0; opened")]),
    # There are no such starts.
    ("append a b; prepend b a", [("a", "a")], []), ("new a; pop a", [("c", "c")], []),
]

# Rows, a name, pairs of names that are apart, and the least start.
CHANGING = [
    ("", "a", (), None), ("clear a", "a", (), "a 0; opened 0"), ("append a a", "a", (), "a 0; opened"),
    ("turn a", "a", (), "a 0; opened 0 1; opened"), ("turn a; turn a", "a", (), None), ("repeat a 1", "a", (), None),
    ("append a b", "a", (), BOTH), ("append a b", "a", [("a", "b")], TWO), ("extend a b", "a", (), BOTH + " 0"),
    ("assign a b", "a", (), "a 0; b 1; opened; opened 0"), ("head a b", "a", (), "a 0; b 0; opened 1; opened"),
    ("turn a; head a a", "a", (), "a 0; opened 1; opened"), ("repeat a 0", "a", (), "a 0; opened 0"),
    # By another name of the list.
    ("append a b", "b", (), BOTH), ("append a b", "b", [("a", "b")], None), ("extend a b", "b", [["b", "a"]], None),
    ("first b a; clear b", "a", (), BOTH + " 0"),
    ("first b a; clear b", "a", [("a", "b")], "a 0; b 1; opened 0; opened"),
    ("first b a; clear b", "b", [("b", "a")], "a 0; b 1; opened 1; opened 0"),
    # What counts is the list that the name holds at the start.
    ("new a; append a b", "a", (), None), ("let a b; append a c", "a", (), "a 0; b 0; c 0; opened"),
    ("let a b; append a c", "a", [("a", "b")], None),
    ("let a b; append a c", "b", [("a", "b")], "a 0; b 1; c 0; opened; opened"),
    ("swap a b; clear a", "a", [("a", "b")], None),
    ("swap a b; clear a", "b", [("a", "b")], "a 0; b 1; opened; opened 0"),
    # Changes that are undone, and runs that stop ahead of this.
    ("append a a; pop a", "a", (), None), ("append a a; seal b; clear b; pop a", "a", (), BOTH),
    ("append a a; pop a; pop a", "a", (), "a 0; opened 0"), ("pop a; append a a", "a", (), "a 0; opened 1; opened"),
    ("append a a; clear b; pop a", "a", [("a", "b")], "a 0; b 1; opened; frozen"),
    # Names that the program has not.
    ("clear a", "b", (), BOTH + " 0"), ("clear a", "b", [("a", "b")], None), ("", "b", [("a", "b")], None),
    ("repeat a 3", "c", (), "a 0; c 0; opened 0"), ("tail a b", "c", [("c", "b")], "a 0; b 1; c 0; opened 0; opened"),
    ("clear a", "c", [("b", "d")], "a 0; b 0; c 0; d 1; opened 0; opened"),
    # There are no such starts.
    ("append a a", "a", [("a", "a")], None), ("append a a", "a", [("b", "b"), ("a", "c")], None),
]

# Rows, rows behind them, what is passed further, and whether these undo the first ones.
UNDOING = [
    ("", "", {}, True), ("", "", {"seen": []}, True), ("", "let a a", {}, True), ("", "clear a", {}, False),
    ("append a b", "pop a", {}, True), ("append a b", "shift a", {}, False), ("prepend a b", "shift a", {}, True),
    ("swap a b", "swap a b", {}, True), ("swap a b", "swap b a; swap a a", {}, True), ("let a b", "", {}, False),
    ("append b a", "if same a b; pop a; else; pop b; end", {}, True), ("head a a", "head a a", {}, False),
    ("if full a; shift a; end", "", {}, False), ("extend a b", "extend a b", {}, False),
    # Starts from which the first ones stop are not meant; behind them nothing may stop.
    ("turn a", "turn a", {}, True), ("new a; pop a", "clear b", {}, True), ("pop a", "append a a", {}, False),
    ("pop a; pop a", "clear b", {}, False), ("append a b", "pop a; first b b", {}, False),
    ("append a b", "pop a; pop a", {"seen": []}, False), ("append a b", "pop a; append a a; pop a", {"seen": []}, True),
    ("append a b", "clear c; pop a", {"seen": []}, False), ("", "pop a", {"seen": []}, False),
    # As names see it.
    ("append a b", "shift a", {"seen": []}, True), ("let a b", "", {"seen": ["b"]}, True),
    ("let a b", "", {"seen": ["a"]}, False), ("let a b", "", {"seen": ("b", "c")}, True),
    ("let c a; let a b", "let a c", {}, False), ("let c a; let a b", "let a c", {"seen": ["a", "b"]}, True),
    ("new c a; new a", "first a c", {"seen": ["a", "b"]}, True), ("copy b a", "let a b", {"seen": ["a"]}, True),
    ("copy b a", "let a b", {"seen": ["b", "a"]}, False), ("clear a", "", {"seen": ["b"]}, False),
    # Where names are apart, and further names.
    ("clear a", "", {"seen": ["b"], "apart": [("a", "b")]}, True), ("pop a", "append a b", {"seen": ["c"]}, False),
    ("pop a", "append a b", {"seen": ["c"], "apart": [("c", "a")]}, True),
    ("if same a b; clear a; end", "", {"apart": [["b", "a"]]}, True),
    ("let a a", "clear c", {"apart": [("b", "c")]}, False),
    ("if same a b; clear a; end", "", {"apart": [("b", "c")]}, False),
    # There are no such starts.
    ("clear a", "append b b", {"apart": [("a", "a")]}, True),
    ("", "clear a", {"seen": [], "apart": [("c", "c")]}, True),
]


class QuestionsTest(unittest.TestCase):
    def test_can_be_one(self):
        for rows, names, apart, one, two in ONES:
            with self.subTest(rows, names=names, apart=apart):
                found = can_be_one(program(rows), *names.split(" "), apart=apart)
                self.assertIs(type(found), tuple)
                self.assertEqual([text_of(start) for start in found], [text and lines(text) for text in (one, two)])
                for start in found:
                    self.assertTrue(start is None or type(start) is Start)

    def test_stops(self):
        for rows, apart, wanted in STOPPING:
            with self.subTest(rows, apart=apart):
                found = stops(program(rows), apart=apart)
                self.assertIs(type(found), tuple)
                self.assertEqual([(at, str(start)) for at, start in found], [(at, lines(text)) for at, text in wanted])
                for pair in found:
                    self.assertEqual([type(part) for part in pair], [int, Start])
                    self.assertIs(type(pair), tuple)

    def test_can_change(self):
        for rows, name, apart, wanted in CHANGING:
            with self.subTest(rows, name=name, apart=apart):
                found = can_change(program(rows), name, apart=apart)
                self.assertEqual(text_of(found), wanted and lines(wanted))
                self.assertTrue(found is None or type(found) is Start)

    def test_undoes(self):
        for rows, others, told, wanted in UNDOING:
            with self.subTest(rows, others=others, **told):
                self.assertIs(undoes(program(rows), program(others), **told), wanted)

    def test_arguments(self):
        made, other, apart = program("let a b; append a b"), program("pop b"), [["a", "b"]]
        self.assertEqual(can_be_one(program=made, one="a", other="b", apart=apart),
                         (Start.read(lines(TWO)), None))
        self.assertEqual(stops(program=made, apart=apart), ((1, Start.read(lines("a 0; b 1; opened; frozen"))),))
        self.assertEqual(can_change(program=made, name="b", apart=apart), Start.read(lines(TWO)))
        self.assertIs(undoes(program=made, other=other, seen=["b"], apart=apart), True)
        self.assertIs(undoes(made, other, seen=("a", "b"), apart=(("a", "b"),)), False)
        self.assertEqual(apart, [["a", "b"]])
        self.assertEqual((made, other), (program("let a b; append a b"), program("pop b")))

    def test_by_name_only(self):
        made = program("let a b")
        self.assertRaises(TypeError, can_be_one, made, "a", "b", [])
        self.assertRaises(TypeError, stops, made, [])
        self.assertRaises(TypeError, can_change, made, "a", [])
        self.assertRaises(TypeError, undoes, made, made, ["a"])
        self.assertRaises(TypeError, undoes, made, made, ["a"], [])
        # What is seen is told to `undoes` alone.
        self.assertRaises(TypeError, lambda: can_be_one(made, "a", "b", seen=["a"]))
        self.assertRaises(TypeError, lambda: stops(made, seen=["a"]))
        self.assertRaises(TypeError, lambda: can_change(made, "a", seen=["a"]))

    def test_programs_at_the_limits(self):
        made = program("; ".join(["if open a; append a b; else; new a b; end; let b c",
                                  "if full b; let c b; else; let c a; end; swap a b",
                                  "new b c a; extend a b; times c b 3; clear b"]))
        self.assertEqual((len(made), made.asks), (12, 1))
        self.assertEqual(stops(made), ())
        self.assertEqual(str(can_change(made, "b")), lines("a 0; b 0; c 0; opened"))
        found = can_be_one(made, "a", "c")
        self.assertEqual([text_of(start) for start in found], [None, lines("a 0; b 0; c 0; opened")])
        self.assertIs(undoes(made, program("new a"), seen=[]), True)
        asking = program("first a a; turn a; last a a; let a a; if open a; append a a; append a a; pop a; end")
        self.assertEqual([at for at, _ in stops(program("first a a; turn a; last a a"))], [0, 1, 2])
        self.assertEqual([at for at, _ in stops(asking)], [0, 1, 2])


def is_stopped(made, start):
    return model.run_again(made, start)[0] is not None


def is_apart(start, apart):
    return all(start[one] != start[other] for one, other in apart)


class AgainstAllStartsTest(unittest.TestCase):
    """What is told of drawn programs, held against runs of the model from all starts with few items."""

    def setUp(self):
        self.found = {}

    def count(self, word, start):
        size = None if start is None else len(start)
        self.found.setdefault(word, {})
        self.found[word][size] = self.found[word].get(size, 0) + 1

    def draw(self, seed, many):
        """Programs, the names of starts, and pairs of names that are apart."""
        some = random.Random(seed)
        sizes = [("a", 1), ("ab", 0), ("ab", 1), ("a", 2), ("ab", 1), ("ab", 0), ("ab", 1), ("abc", 0)]
        for turn in range(many):
            names, asks = sizes[turn % len(sizes)]
            made = None
            while made is None or made.asks < asks:
                made = model.some_program(some, names, 6, asks, 2)
            apart = [] if some.random() < 0.7 else [(some.choice(names), some.choice(names))]
            yield some, names, made, apart

    def starts(self, names, apart, items):
        """The starts meant with at most so many items, ascending."""
        known = sorted({*names, *[name for pair in apart for name in pair]})
        return [start for start in model.few_starts(tuple(known), items) if is_apart(start, apart)] if known else []

    def outcomes(self, made, further, apart):
        """The starts meant with few items, ascending, each with what the model tells of the run."""
        starts = self.starts([*made.names, *further], apart, made.asks + 2)
        return [(start, model.run_again(made, start)) for start in starts]

    def test_can_be_one(self):
        for some, names, made, apart in self.draw(351, 90):
            one, other = some.choice(names), some.choice(names)
            if one != other and some.random() < 0.6:
                apart = [(one, other)]
            least = {True: None, False: None}
            for start, (_, holders, _, _) in self.outcomes(made, [one, other], apart):
                is_one = holders[start.names.index(one)] == holders[start.names.index(other)]
                if least[is_one] is None:
                    least[is_one] = start
            with self.subTest(str(made), one=one, other=other, apart=apart):
                self.assertEqual(can_be_one(made, one, other, apart=apart), (least[True], least[False]))
            self.count("one", least[True])
            self.count("two", least[False])
        self.assertGreater(min(self.found["one"][size] for size in (None, 0, 1)), 0)
        self.assertGreater(min(self.found["two"][size] for size in (None, 0)), 20)

    def test_stops(self):
        for some, names, made, apart in self.draw(352, 90):
            least = {}
            for start, (at, _, _, _) in self.outcomes(made, [], apart):
                if at is not None:
                    least.setdefault(at, start)
            with self.subTest(str(made), apart=apart):
                self.assertEqual(stops(made, apart=apart), tuple(sorted(least.items(), key=lambda pair: pair[0])))
            for start in least.values():
                self.count("stops", start)
        self.assertGreater(min(self.found["stops"][size] for size in (0, 1)), 2)

    def test_can_change(self):
        for some, names, made, apart in self.draw(353, 90):
            name = some.choice(names)
            least = None
            for start, (_, _, rows, _) in self.outcomes(made, [name], apart):
                if rows[start[name]] != start.lists[start[name]]:
                    least = start
                    break
            with self.subTest(str(made), name=name, apart=apart):
                self.assertEqual(can_change(made, name, apart=apart), least)
            self.count("change", least)
        self.assertGreater(min(self.found["change"][size] for size in (None, 0, 1, 2)), 0)

    def test_undoes(self):
        pairs = [("append a b", "pop a"), ("prepend b a", "shift b"), ("swap a b", "swap b a"), ("turn a", "turn a"),
                 ("let c a", "let a c"), ("new c a", "first a c"), ("let c a; let a b", "let a c"),
                 ("pop a", "append a a")]
        found = {True: 0, False: 0}
        some = random.Random(354)
        for turn in range(90):
            first, then = [program(rows) for rows in some.choice(pairs)]
            more = model.some_program(some, "ab", 2, 0, 1)
            if turn % 3 == 0:
                first, then = more, model.near_program(some, more, "ab", 0)
            elif turn % 3 == 1:
                first = first + more
            seen = some.choice([None, [], ["a"], ["a", "b"], ["b"]])
            apart = some.choice([[], [], [("a", "b")]])
            both = first + then
            names = model.names_of(first, then, seen, apart)
            if both.asks + len(names) > 3:
                continue
            # The empty program, with which both are compared, asks nothing.
            meant = [start for start in self.starts(names, apart, both.asks + 2) if not is_stopped(first, start)]
            wanted = all(not is_stopped(both, start)
                         and model.compared(both, start, seen) == model.compared(Program(), start, seen)
                         for start in meant)
            with self.subTest(str(first), then=str(then), seen=seen, apart=apart):
                self.assertIs(undoes(first, then, seen=seen, apart=apart), wanted)
            found[wanted] += 1
        self.assertGreater(min(found.values()), 10)
