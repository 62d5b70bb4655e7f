"""Points 9, 10, 11 and 24 to 27: whether programs are alike, and the least starts that show the contrary."""

import itertools
import random
import unittest

import model
from samelists.alike import alike, apart_needed, follows, least_start, least_unlike
from samelists.programs import Program
from samelists.runs import run
from samelists.starts import Start


def lines(text):
    return text.replace("; ", "\n")


def program(text):
    return Program.read(lines(text))


# Rows, other rows that are alike, what is passed further.
ALIKE = [
    ("", "", {}), ("", "", {"seen": []}), ("", "", {"seen": ["a"]}), ("", "", {"apart": [("a", "b")]}),
    ("let a a", "", {}), ("swap a a", "", {}), ("swap a b; swap a b", "", {}), ("swap a b", "swap b a", {}),
    ("let b a; let a b", "let b a", {}), ("new a b; new a", "new a", {}), ("seal a; let b a", "seal b; let a b", {}),
    ("new a; new b", "new b; new a", {}), ("clear a; clear a", "clear a", {}),
    ("append a a; pop a", "turn a; turn a", {}), ("prepend a b; turn a", "turn a; append a b", {}),
    ("turn a; pop a; turn a", "shift a", {}), ("pop a; append a a; pop a", "pop a", {}),
    ("extend a b", "if open a; extend a b; else; join a a b; end", {}), ("extend a a", "repeat a 2", {}),
    ("repeat a 1", "if open a; else; times a a 1; end", {}), ("times b a 3", "join b a a; join b b a", {}),
    ("if full a; first a a; else; first a a; end", "first a a", {}), ("if same a b; let a b; end", "", {}),
    ("if full a; pop a; else; shift a; end", "pop a", {}), ("head a b; tail a b", "tail a b; head a b", {}),
    # As names see it.
    ("let a b", "copy a b", {"seen": ["a", "b"]}), ("seal a b", "new a b", {"seen": ["a"]}),
    ("let b a", "swap a b", {"seen": []}), ("new b a; new a b", "seal b; new a b", {"seen": ["a"]}),
    ("append b a", "append b b", {"seen": ["a"], "apart": [("a", "b")]}),
    # Where names are apart.
    ("if same a b; pop a; end", "", {"apart": [("b", "a")]}),
    ("let c a; let d b", "let d b; let c a", {"apart": (("c", "d"), ["a", "b"])}),
    # There are no such starts.
    ("clear a", "new b", {"apart": [("a", "a")]}), ("clear a", "", {"apart": [("a", "b"), ("c", "c")], "seen": []}),
    # Four names.
    ("swap a b; swap c d", "swap c d; swap a b", {}), ("swap a b; swap c d; let d a", "swap a b; let c d; let d a", {}),
    ("if open a; append a b; end; if open c; append c d; end", "if open c; append c d; end; if open a; append a b; end",
     {"apart": [("a", "c")]}),
]

# Rows, other rows, what is passed further, and the least start at which they part.
UNLIKE = [
    # The example of the overview.
    ("extend a b", "join a a b", {"seen": ["a", "b"]}, "a 0; b 0; opened 0"),
    ("extend a b", "join a a b", {}, "a 0; b 0; opened"),
    ("let a b", "", {}, "a 0; b 1; opened; opened"), ("let a b", "copy a b", {}, "a 0; b 0; opened"),
    ("let a b", "", {"seen": ["a"]}, "a 0; b 1; opened; opened 0"),
    ("new a", "seal a", {}, "a 0; opened"), ("new a a", "seal a a", {"seen": []}, None),
    ("clear a", "", {}, "a 0; frozen"), ("turn a", "", {}, "a 0; frozen"),
    ("turn a", "append a a; pop a", {}, "a 0; opened 0 1; opened"),
    ("turn a", "append a a; pop a", {"seen": ["b"]}, "a 0; b 0; opened 0 1; opened"),
    ("turn a", "append a a; pop a", {"seen": ["b"], "apart": [("a", "b")]}, None),
    # The items of one list in reverse order are not those of another one.
    ("turn a", "assign a b", {"apart": [("a", "b")]}, "a 0; b 1; opened; opened 0"),
    ("turn b", "assign b a", {"apart": [("a", "b")]}, "a 0; b 1; opened; opened 0"),
    ("pop a", "", {}, "a 0; opened"), ("pop a", "shift a", {}, "a 0; opened 0 1; opened"),
    ("pop a; pop a", "shift a; shift a", {}, "a 0; opened 0 0 1; opened"),
    ("if full a; clear a; end", "clear a", {}, "a 0; frozen"),
    ("if full a; clear a; end", "if open a; clear a; end", {}, "a 0; frozen 0"),
    ("first a a", "last a a", {}, "a 0; opened 0 1; opened"),
    ("first a a; first a a", "first a a", {}, "a 0; opened 1; opened"),
    ("first a a; clear a", "first a a; turn a", {}, "a 0; opened 0"),
    ("let a b", "", {"apart": [("a", "c")]}, "a 0; b 1; c 1; opened; opened"),
    ("let a b", "", {"apart": [("a", "c"), ("b", "c")]}, "a 0; b 1; c 2; opened; opened; opened"),
    ("let a b", "", {"apart": [("a", "b")], "seen": ["d", "a"]}, "a 0; b 1; d 0; opened; opened 0"),
    ("let d a", "if same c b; let d a; end", {}, "a 0; b 0; c 1; d 1; opened; opened"),
    ("if same a b; if same b c; if same c d; pop a; end; end; end", "", {}, "a 0; b 0; c 0; d 0; opened"),
    ("append a b; append c d", "append c d; append a b", {}, "a 0; b 0; c 0; d 1; opened; opened"),
    ("", "let a b", {"seen": ["c", "a"]}, "a 0; b 1; c 0; opened; opened 0"),
]

# Rows, other rows, what is passed further, and the least start that shows that the others do not follow.
FOLLOWING = [
    ("", "", {}, None), ("pop a", "", {}, "a 0; opened 0"), ("", "pop a", {}, "a 0; opened"),
    ("pop a; append a a; pop a", "pop a", {}, None), ("turn a; turn a", "", {}, None),
    ("", "turn a; turn a", {}, "a 0; frozen"), ("append a a; pop a", "let a a", {}, None),
    ("clear a; pop a", "new a; append a a", {}, None), ("new a; append a a", "clear a; pop a", {}, "a 0; opened"),
    ("first b a", "last b a", {}, "a 0; b 0; opened 0 1; opened"), ("first b a", "last b a", {"seen": []}, None),
    ("head a b; first a a", "head a b; let a b", {}, None),
    ("shift a; shift a; shift a", "shift a; shift a; clear a", {}, "a 0; opened 0 0 0 0"),
    ("if open a; else; pop a; end", "if open a; else; clear b; end", {}, None),
    ("pop a; pop b", "pop b; pop a", {"apart": [("a", "b")]}, None), ("pop a; pop b", "pop b; pop a", {}, None),
    ("append a a", "append b b", {"apart": [("a", "b")]}, "a 0; b 1; opened; opened"),
    ("append a a", "append b b", {"apart": [("a", "a")]}, None),
    ("append a a", "append b b", {"seen": ["c"], "apart": [("b", "c"), ("a", "c"), ("a", "b")]},
     "a 0; b 1; c 2; opened; frozen; opened"),
]


class AlikeTest(unittest.TestCase):
    def test_alike(self):
        for rows, others, told in ALIKE:
            with self.subTest(rows, others=others, **told):
                for p, q in itertools.permutations([program(rows), program(others)]):
                    self.assertIs(alike(p, q, **told), True)
                    self.assertIsNone(least_start(p, q, **told))
                    self.assertIs(follows(p, q, **told), True)
                    self.assertIsNone(least_unlike(p, q, **told))

    def test_unlike(self):
        for rows, others, told, text in UNLIKE:
            with self.subTest(rows, others=others, **told):
                for p, q in itertools.permutations([program(rows), program(others)]):
                    least = least_start(p, q, **told)
                    self.assertIs(alike(p, q, **told), text is None)
                    self.assertEqual(text and str(least), text and lines(text))
                    if text is None:
                        self.assertIsNone(least)
                    else:
                        self.assertIsInstance(least, Start)

    def test_following(self):
        for rows, others, told, text in FOLLOWING:
            with self.subTest(rows, others=others, **told):
                p, q = program(rows), program(others)
                self.assertIs(follows(p, q, **told), text is None)
                self.assertEqual(text and str(least_unlike(p, q, **told)), text and lines(text))
                if text is None:
                    self.assertIsNone(least_unlike(p, q, **told))

    def test_arguments(self):
        p, q = program("extend a b"), program("join a a b")
        seen, apart = ["b", "a", "b"], [["a", "b"]]
        self.assertIs(alike(p=p, q=q, seen=seen, apart=apart), True)
        self.assertIs(alike(p, q, seen=tuple(seen), apart=tuple(map(tuple, apart))), True)
        self.assertEqual((seen, apart), (["b", "a", "b"], [["a", "b"]]))
        for function in (alike, least_start, follows, least_unlike):
            self.assertRaises(TypeError, function, p, q, ["a"])
            self.assertRaises(TypeError, function, p, q, ["a"], [])
        self.assertRaises(TypeError, apart_needed, p, q, ["a"])
        self.assertRaises(TypeError, lambda: apart_needed(p, q, apart=[]))

    def test_start_has_just_these_names(self):
        p, q = program("clear b"), program("if same b b; end")
        self.assertEqual(least_start(p, q).names, ("b",))
        self.assertEqual(least_start(p, q, seen=["d"]).names, ("b", "d"))
        self.assertEqual(least_start(p, q, seen=["zz", "b"], apart=[("a", "zz")]).names, ("a", "b", "zz"))
        self.assertEqual(least_unlike(q, p, apart=[("c", "a")]).names, ("a", "b", "c"))

    def test_outcomes_at_the_start_that_is_told_are_not_the_same(self):
        for rows, others, told, text in UNLIKE:
            if text is not None:
                start = Start.read(lines(text))
                one, other = run(program(rows), start), run(program(others), start)
                self.assertFalse(one == other)
                if told.get("seen") is not None:
                    self.assertNotEqual(one.seen(told["seen"]), other.seen(told["seen"]))


def has_stopped(p, start):
    return model.run_again(p, start)[0] is not None


def both_open(*rows):
    """Rows that are done only if the lists of a and b are open."""
    return "; ".join(["if open a; if open b", *rows, "end; end"])


class AgainstAllStartsTest(unittest.TestCase):
    def least_ones(self, p, q, told):
        """The least start at which the programs part, and the least one from which p does not stop, too."""
        least = unlike = None
        for start in model.parting_starts(p, q, **told):
            if least is None:
                least = start
            if not has_stopped(p, start):
                unlike = start
                break
        return least, unlike

    def check(self, p, q, told):
        least, unlike = self.least_ones(p, q, told)
        with self.subTest(str(p), q=str(q), **told):
            self.assertEqual(least_start(p, q, **told), least)
            self.assertIs(alike(p, q, **told), least is None)
            self.assertEqual(least_unlike(p, q, **told), unlike)
            self.assertIs(follows(p, q, **told), unlike is None)
        return least

    def test_random_programs(self):
        some = random.Random(25)
        found = {}
        sizes = [("a", 0), ("a", 1), ("a", 2), ("ab", 0), ("ab", 1), ("abc", 0)]
        for turn in range(480):
            names, asks = sizes[turn % len(sizes)]
            p = model.some_program(some, names, 4, some.randint(0, asks), 2)
            q = model.near_program(some, p, names, asks - p.asks)
            seen = None if some.random() < 0.5 else some.choices(names, k=some.randint(0, 3))
            apart = [] if some.random() < 0.7 else [(some.choice(names), some.choice(names))]
            least = self.check(p, q, {"seen": seen, "apart": apart})
            size = None if least is None else len(least)
            found[size] = found.get(size, 0) + 1
        # Many are alike, and some part only where there are items.
        self.assertGreater(found[None], 80)
        self.assertGreater(found[1], 10)
        self.assertGreater(found[2], 0)

    def test_four_names(self):
        some = random.Random(26)
        for _ in range(60):
            p = model.some_program(some, "abcd", 3, 0, 1)
            q = model.near_program(some, p, "abcd", 0)
            seen = None if some.random() < 0.5 else some.sample("abcd", some.randint(0, 4))
            if len(model.names_of(p, q, seen)) < 4 or some.random() < 0.3:
                self.check(p, q, {"seen": seen})

    def test_as_many_items_as_are_needed(self):
        for rows, others, size in [
            ("turn a", "append a a; pop a", 2), ("pop a; turn a", "pop a", 3),
            ("pop a; pop a; turn a", "pop a; pop a", 4),
            ("if full a; shift a; turn a; end", "if full a; shift a; end", 3),
        ]:
            p, q = program(rows), program(others)
            least = next(model.parting_starts(p, q, most=4))
            self.assertEqual(len(least), size)
            self.assertEqual(least_start(p, q), least)

    def test_programs_at_the_limits(self):
        p = program("; ".join(["if open a; append a b; else; new a b; end", "if full b; let c b; else; let c a; end",
                               "swap a b; new b c a; turn b; extend a b; times c b 3; seal a c b"]))
        self.assertEqual((len(p), p.asks, len(p.names)), (12, 1, 3))
        self.assertIs(alike(p, program(str(p).replace("\n", "; ") + "; let a a")), True)
        self.assertIsNone(least_start(p * 2, p + p))
        long = program("extend a b; extend b a; repeat a 3; repeat b 3; append a b; turn b")
        self.assertIs(alike(long * 2, long + long), True)
        self.assertIs(alike(long * 2, long, seen=["a"]), False)


def bad_groups(p, q, seen):
    """The ways to hold lists (as tuples of pairs of names that share one) with which the programs part."""
    names = model.names_of(p, q, seen)
    pairs = list(itertools.combinations(names, 2))
    found = set()
    for start in model.parting_starts(p, q, seen):
        found.add(tuple((one, other) for one, other in pairs if start[one] == start[other]))
    return pairs, found


class ApartNeededTest(unittest.TestCase):
    def test_some(self):
        for rows, others, seen, told in [
            ("", "", None, ()), ("let a a", "", None, ()), ("clear a; clear a", "clear a", None, ()),
            ("clear a", "", None, None), ("let a b", "", None, None), ("let a b", "", [], ()), ("pop a", "", [], None),
            ("extend a b", "join a a b", ["a", "b"], (("a", "b"),)), ("extend a b", "join a a b", None, None),
            ("extend a b", "join a a b", ["a"], ()), ("extend b a", "join b b a", ["a"], (("a", "b"),)),
            (both_open("append a c; append b c"), both_open("append b c; append a c"), None, ()),
            (both_open("append a c; append b d"), both_open("append b d; append a c"), None, (("a", "b"),)),
            ("append a a; append b c", "append a a; append b a", ["a"], (("a", "b"),)),
            ("extend b b", "join b b b", ["d", "c", "a"], (("a", "b"), ("b", "c"), ("b", "d"))),
            ("if same a b; pop c; end; if same c d; pop c; end", "", [], (("a", "b"), ("c", "d"))),
            ("if same a b; if same b c; pop c; end; end", "", [], (("a", "b"),)),
            ("if same a b; new d; end", "", ["d"], (("a", "b"),)),
            ("if same b c; new d; end; if same a b; if same c d; new d; end; end", "", ["d"], (("a", "b"), ("b", "c"))),
        ]:
            with self.subTest(rows, others=others, seen=seen):
                p, q = program(rows), program(others)
                self.assertEqual(apart_needed(p, q, seen=seen), told)
                self.assertEqual(apart_needed(p=q, q=p, seen=seen and tuple(seen)), told)
                if told is not None:
                    self.assertIs(type(told), tuple)
                    self.assertIs(alike(p, q, seen=seen, apart=told), True)
                    for pair in told:
                        less = [other for other in told if other != pair]
                        self.assertIs(alike(p, q, seen=seen, apart=less), False)

    def test_random_programs(self):
        some = random.Random(27)
        found = {}
        for turn in range(150):
            names, asks = [("ab", 0), ("ab", 1), ("abc", 0)][turn % 3]
            p = model.some_program(some, names, 3, asks // 2, 1)
            q = model.near_program(some, p, names, asks - p.asks)
            seen = some.choices(names, k=some.randint(0, 3))
            pairs, groups = bad_groups(p, q, seen)
            told = None
            for chosen in [chosen for size in range(len(pairs) + 1) for chosen in itertools.combinations(pairs, size)]:
                if all(set(group) & set(chosen) for group in groups):
                    told = chosen
                    break
            with self.subTest(str(p), q=str(q), seen=seen):
                self.assertEqual(apart_needed(p, q, seen=seen), told)
            size = None if told is None else len(told)
            found[size] = found.get(size, 0) + 1
        self.assertGreater(found[None], 20)
        self.assertGreater(found[0], 20)
        self.assertGreater(found[1], 0)
