"""Points 11 and 28 to 30: papers that show that programs are alike, and how they are checked."""

import random
import unittest

import model
from paper_model import holds_again
from samelists.alike import alike
from samelists.papers import paper, paper_holds
from samelists.programs import Program

# In a sketch with one list.
KIND = ("kind", 0, (), ())
FRONT = ("front", 0, (), ((),), ())
BACK = ("back", 0, (), ((),), ())
# In a sketch with two lists.
FRONT_0 = ("front", 0, (), ((), ()), ())
FRONT_1 = ("front", 1, (), ((), ()), ())
BACK_0 = ("back", 0, (), ((), ()), ())
BACK_1 = ("back", 1, (), ((), ()), ())


def program(text):
    return Program.read(text.replace("; ", "\n"))


class HandMadeTest(unittest.TestCase):
    def check(self, rows, others, holds, fails, **told):
        """Papers that hold for two programs, and values that do not."""
        p, q = program(rows), program(others)
        self.assertTrue(alike(p, q, **told))
        for value in [*holds, paper(p, q, **told)]:
            with self.subTest(rows, others=others, value=value):
                self.assertIs(paper_holds(p, q, value, **told), True)
                self.assertIs(holds_again(p, q, value, **told), True)
        for value in fails:
            with self.subTest(rows, others=others, value=value):
                self.assertIs(paper_holds(p, q, value, **told), False)
                self.assertIs(holds_again(p, q, value, **told), False)

    def test_programs_without_rows(self):
        # Of no names there is one sketch, without lists.
        self.check("", "", [((),)], [(), ((), ()), [()], [[]], ((0,),), (KIND,), (FRONT,)])
        self.check("", "", [((),)], [(KIND,)], seen=[])
        self.check("", "", [((),), (KIND,), (FRONT,)], [(), ((), ())], seen=["a"])
        self.check("", "", [((),)], [((), ())], apart=[("a", "b")])

    def test_nothing_is_asked(self):
        self.check("let a b", "let a b; let a a", [((), ())], [(), ((),), ((), (), ()), [(), ()], ((), [])])
        self.check("new a b; new b", "new a b; new b b; new b", [((), ())], [])
        for row in ("let a a", "new a a", "seal a a a", "swap a a", "if same a a; end"):
            self.check(row, row, [((),), (KIND,), (FRONT,), (BACK,)], [])

    def test_one_tree_for_each_way_to_hold_lists(self):
        self.check("let a b", "let a b", [((), FRONT_1), (FRONT, FRONT_0)], [(FRONT_1, ()), ((), FRONT)])
        # The names hold one list; then there are three ways to hold two; then they hold three.
        two = [(), FRONT_0, FRONT_1]
        three = ("back", 2, (), ((), (), ()), ())
        self.check("let c a", "let c a", [((), tree, tree, tree, three) for tree in two],
                   [(FRONT_0, (), (), (), ()), ((), three, (), (), ()), ((), (), (), (), FRONT_0)], seen=["b", "c"])

    def test_kinds(self):
        self.check("extend a b", "extend a b", [(KIND, KIND), (KIND, ("kind", 1, KIND, KIND))], [
            ((), ()), (KIND, ()), ((), KIND), (KIND,), (KIND, KIND, ()), (KIND, ("kind", 1, (), ())),
            (KIND, ("kind", 1, KIND, ())), (("kind", 0, KIND, KIND), KIND),
        ])
        for row in ("times a a 0", "repeat a 1", "join a a a", "copy a a", "turn a", "append a a", "prepend a a",
                    "extend a a", "assign a a", "clear a", "if open a; end"):
            self.check(row, row, [(KIND,)], [((),)])
            self.check(row, row, [(KIND,)], [((),), (FRONT,)], seen=[])

    def test_what_is_compared_does_not_matter_for_questions(self):
        # A copy of a frozen list is that list; as a and b see it, it is alike anyway.
        self.check("copy a b", "let a b", [(KIND, ("kind", 1, (), ()))], [((), ()), (KIND, ()), (KIND, KIND)],
                   seen=["b", "a"])
        self.check("first b a; new b", "first b a; new b", [(FRONT, FRONT_0)], [((), ())], seen=["b"])

    def test_ends(self):
        self.check("first a b", "first a b", [(FRONT, FRONT_1)], [
            (BACK, FRONT_1), (FRONT, FRONT_0), (FRONT, ()), (FRONT, ("front", 1, (), ((),), ())),
            (FRONT, ("front", 1, (), ((), (), ()), ())), (FRONT, ("front", 1, (), (), ())),
            (FRONT, ("front", 1, (), [(), ()], ())),
        ])
        self.check("last a a", "last a a", [(BACK,)], [(FRONT,), ((),), (KIND,)])
        # Where the first item is the list itself, the second row asks nothing more.
        self.check("first a a; first a a", "first a a; first a a", [(("front", 0, (), ((),), FRONT_1),)], [
            (FRONT,), (("front", 0, (), ((),), FRONT_0),), (("front", 0, FRONT, ((),), FRONT_1),)])

    def test_ends_are_asked_only_of_open_lists(self):
        for row, end, far_end in [("pop a", BACK, FRONT), ("tail a a", BACK, FRONT),
                                  ("shift a", FRONT, BACK), ("head a a", FRONT, BACK)]:
            word, far = end[0], far_end[0]
            self.check(row, row, [
                (("kind", 0, end, ()),), (("kind", 0, end, far_end),), ((word, 0, KIND, (KIND,), KIND),),
                (("kind", 0, (far, 0, (), (end,), (word, 0, (), ((), ()), ())), ()),),
            ], [
                ((),), (KIND,), (end,), (("kind", 0, far_end, ()),), (("kind", 0, (), end),),
                ((word, 0, (), (KIND,), KIND),), (("kind", 0, (far, 0, (), ((),), ()), ()),),
                (("kind", 0, (far, 0, (), (end,), ()), ()),),
            ])

    def test_full(self):
        # Either end tells whether there are items, also of a frozen list.
        self.check("if full a; end", "", [(FRONT,), (BACK,)], [((),), (KIND,)])
        # A known item is enough.
        self.check("new a a; if full a; end", "new a a", [((),)], [])
        self.check("if open a; append a a; if full a; end; end", "if open a; append a a; end", [(KIND,)], [((),)])
        self.check("if full a; first a a; end", "if full a; first a a; end",
                   [(FRONT,), (("back", 0, (), (FRONT,), FRONT_0),)], [(BACK,), (("back", 0, (), (FRONT,), FRONT_1),)])

    def test_turned_middles(self):
        self.check("turn a; pop a", "shift a; turn a", [(("kind", 0, FRONT, ()),)],
                   [(("kind", 0, BACK, ()),), (KIND,), (FRONT,)])
        self.check("turn a; turn a", "append a a; pop a", [(KIND,)], [((),)])

    def test_several_middles(self):
        # The items of b stand behind those of a: first its end is asked, and if it has none, that of a.
        ends = ("back", 1, BACK_0, ((), ()), ())
        self.check("extend a b; pop a", "extend a b; pop a", [(("kind", 0, ends, ()),)], [
            ((),), (KIND,), (("kind", 0, BACK_1, ()),), (("kind", 0, BACK_0, ()),),
            (("kind", 0, ("back", 1, BACK_1, ((), ()), ()), ()),),
        ], apart=[("a", "b")])

    def test_more_than_is_needed(self):
        fresh = ("front", 1, (), ((), ()), ())
        self.check("clear a", "clear a; clear a", [
            (("kind", 0, FRONT, BACK),), (("front", 0, KIND, (KIND,), KIND),),
            (("kind", 0, ("front", 0, (), (BACK,), fresh), ()),),
            (("kind", 0, ("front", 0, (), (FRONT,), ("kind", 1, fresh, ("back", 0, (), ((), ()), ()))), ()),),
        ], [
            # The kind is told; there is no list with this number; there is no middle any more.
            (("kind", 0, (), KIND),), (("kind", 1, (), ()),), (("kind", -1, (), ()),), (("kind", 0, fresh, ()),),
            (("kind", 0, ("front", 0, FRONT, ((),), ()), ()),), (("kind", 0, ("front", 0, BACK, ((),), ()), ()),),
            (("kind", 0, ("front", 0, (), (fresh,), ()), ()),),
            (("kind", 0, ("front", 0, (), ((),), ("front", 2, (), ((), ()), ())), ()),),
            # The list that was fresh is known, too.
            (("kind", 0, ("front", 0, (), ((),), FRONT), ()),),
            (("front", 0, (), (KIND,), KIND),), (("front", 0, KIND, ((),), KIND),), (("front", 0, KIND, (KIND,), ()),),
        ])

    def test_apart(self):
        self.check("extend a b", "join a a b", [(KIND,)], [(KIND, KIND), (), ((),)],
                   seen=["a", "b"], apart=[("b", "a")])
        # No starts are meant: whatever the programs are, just the empty tuple is a paper.
        for apart in ([("a", "a")], [("a", "b"), ("c", "c")], (("b", "b"),)):
            self.check("extend a b", "clear a", [()], [((),), ((), ()), (KIND,), (KIND, KIND), [], None], apart=apart)

    def test_further_names(self):
        self.check("let a a", "", [((), ())], [((),), ((), (), ())], seen=["b"])
        self.check("let a a", "", [((),) * 3], [((),) * 5], seen=["b"], apart=[("c", "a")])
        self.check("let a a", "", [((),) * 15], [((),) * 14, ((),) * 16, ()], seen=["d", "b", "c"])
        self.check("let a a", "", [((),)], [((),) * 2, ()], seen=["b"], apart=[("a", "b")])

    def test_programs_that_are_not_alike(self):
        for rows, others, told in [
            ("clear a", "", {}), ("let a b", "", {}), ("new a", "seal a", {}), ("extend a b", "join a a b", {}),
            ("turn a", "if open a; else; pop a; end", {}), ("let a b", "", {"seen": ["a"]}),
            ("extend a b", "join a a b", {"seen": ["a", "b"]}), ("pop a", "clear a", {"seen": []}),
            ("let a b", "", {"apart": [("a", "c")]}),
        ]:
            p, q = program(rows), program(others)
            self.assertIsNone(paper(p, q, **told))
            many = len(paper(p, p, **told) if set(q.names) <= set(p.names) else paper(q, q, **told))
            for tree in ((), KIND, FRONT, BACK, ("kind", 0, FRONT, FRONT), ("kind", 0, BACK, BACK)):
                self.assertIs(paper_holds(p, q, (tree,) * many, **told), False)
            self.assertIs(paper_holds(p, q, paper(p, p, **told), **told), False)
            self.assertIs(paper_holds(p, q, None, **told), False)


def nested(depth, inner, kind=tuple):
    """A tuple (or list) in a tuple, and so on."""
    for _ in range(depth):
        inner = kind([inner])
    return inner


class AnyValueTest(unittest.TestCase):
    def values(self):
        """Values of all sorts, none of which is a paper for one name that is asked for its kind."""
        plain = [None, True, False, 0, 1, -1, 10 ** 30, "", "kind", "()", [], [()], ((),), "front"]
        yield from plain
        for value in plain:
            yield (value,)
            yield [value]
            for at in range(4):
                yield (KIND[:at] + (value,) + KIND[at + 1:],) if value != KIND[at] else ()
            yield (("kind", 0, (), (), value),)
            yield (("front", 0, (), value, ()),)
            yield (("front", value, (), ((),), ()),)
            yield (KIND, value)
        yield ["kind", 0, (), ()]
        yield (["kind", 0, (), ()],)
        yield [KIND]
        yield KIND
        yield (KIND[:3],)
        yield (KIND[:1],)
        yield (("kind", 0),)
        yield (("Kind", 0, (), ()),)
        yield ((("kind",), 0, (), ()),)
        yield (("kind", False, (), ()),)
        yield (("kind", "0", (), ()),)
        yield (("kind", (0,), (), ()),)
        for kind in (tuple, list):
            for inner in ((), None, KIND, 0, "x"):
                yield nested(60, inner, kind)
        yield ((),) * 100000
        yield (((),) * 99999,)

    def test_none_is_a_paper_and_none_raises(self):
        p = program("turn a; turn a")
        q = program("append a a; pop a")
        self.assertIs(paper_holds(p, q, (KIND,)), True)
        for value in self.values():
            self.assertIs(paper_holds(p, q, value), False)

    def test_booleans_are_no_numbers(self):
        p = program("new a; new b")
        self.assertIs(paper_holds(p, p, ((), ("kind", 1, (), ()))), True)
        self.assertIs(paper_holds(p, p, ((), ("kind", True, (), ()))), False)
        self.assertIs(paper_holds(p, p, ((), ("kind", 0, (), ()))), True)
        self.assertIs(paper_holds(p, p, ((), ("kind", False, (), ()))), False)

    def test_deep_papers(self):
        p = program("let a a")
        # Each front is the list itself, or there are more and more lists.
        deep = fresh = middle = ()
        for depth in range(29):
            deep = ("front", 0, (), (deep,), ())
        for lists in range(58, 0, -1):
            fresh = ("front", lists - 1, (), ((),) * lists, fresh)
            middle = ("back", 0, (), ((),) * lists, middle)
        for tree in (deep, fresh, middle):
            self.assertIs(paper_holds(p, Program(), (tree,)), True)
            self.assertIs(paper_holds(p, program("new a"), (tree,)), False)
        spoilt = ("front", 0, (), ((),), fresh)
        self.assertIs(paper_holds(p, Program(), (spoilt,)), False)
        much_deeper = ()
        for depth in range(2000):
            much_deeper = ("front", 0, (), (much_deeper,), ())
        self.assertIs(paper_holds(p, Program(), (much_deeper,)), True)

    def test_a_paper_is_not_changed_by_what_is_done_with_it(self):
        p = program("extend a b; first a b")
        made = paper(p, p)
        self.assertEqual(made, paper(p, p))
        self.assertIs(paper_holds(p, p, list(made)), False)
        self.assertEqual(made, paper(p, p))


def all_places(value, place=()):
    """The ways down to all values within a value, as tuples of indexes."""
    found = [place]
    if type(value) is tuple:
        for at, part in enumerate(value):
            found += all_places(part, (*place, at))
    return found


def at_place(value, place):
    for at in place:
        value = value[at]
    return value


def with_other(value, place, other):
    """The value with another one at a place."""
    if not place:
        return other
    at, *further = place
    return (*value[:at], with_other(value[at], further, other), *value[at + 1:])


def spoilt(some, value):
    """The value with one thing in it made otherwise."""
    place = some.choice(all_places(value))
    part = at_place(value, place)
    if type(part) is int:
        return with_other(value, place, some.choice([part + 1, part - 1, 0, 1, 2]))
    if type(part) is str:
        return with_other(value, place, some.choice(["kind", "front", "back"]))
    if part == ():
        number = some.randrange(3)
        size = some.randint(1, 4)
        end = (some.choice(["front", "back"]), number, (), ((),) * size, ())
        return with_other(value, place, some.choice([("kind", number, (), ()), end, end, end]))
    others = [(), part[::-1], part[1:], (*part, ()), (*part, part[-1]), (*part[:-1], some.choice(part)), list(part)]
    return with_other(value, place, some.choice(others))


class RandomTest(unittest.TestCase):
    def pairs(self, seed, many):
        """Pairs of programs with what `seen` and `apart` may be for them."""
        some = random.Random(seed)
        for _ in range(many):
            names, asks = some.choice([(["a"], 4), (["a", "b"], 3), (["a", "b"], 2), (["a", "b", "c"], 2)])
            p = model.some_program(some, names, 4, asks // 2, 2)
            q = model.near_program(some, p, names, asks - p.asks)
            seen = None if some.random() < 0.6 else some.choices(names, k=some.randint(0, 3))
            apart = [] if some.random() < 0.7 else [(some.choice(names), some.choice(names))]
            yield some, p, q, {"seen": seen, "apart": apart}

    def test_papers_for_alike_programs_and_for_no_others(self):
        alike_ones = 0
        for some, p, q, told in self.pairs(28, 1200):
            made = paper(p, q, **told)
            with self.subTest(str(p), q=str(q), **told):
                self.assertIs(made is not None, alike(p, q, **told))
                if made is not None:
                    alike_ones += 1
                    self.assertIs(paper_holds(p, q, made, **told), True)
                    self.assertIs(holds_again(p, q, made, **told), True)
        self.assertGreater(alike_ones, 300)

    def test_papers_spoilt_in_one_place(self):
        found = {True: 0, False: 0}
        for some, p, q, told in self.pairs(30, 700):
            made = paper(p, q, **told) or paper(p, p, **told)
            for _ in range(12):
                other = spoilt(some, made)
                holds = holds_again(p, q, other, **told)
                self.assertIs(paper_holds(p, q, other, **told), holds, (str(p), str(q), other, told))
                found[holds] += 1
                if holds and some.random() < 0.5:
                    made = other
        self.assertGreater(found[True], 300)
        self.assertGreater(found[False], 3000)
