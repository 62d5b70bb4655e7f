"""Points 2 and 11 over the whole program: the answers of all modules agree with one another, and stay the same."""

import random
import unittest

import model
from samelists.alike import alike, apart_needed, follows, least_start, least_unlike
from samelists.choices import (
    copies_needed, fewest_copies, fewest_rows, idle_rows, may_be_new, may_change_places, most_new,
)
from samelists.desk import Desk
from samelists.errors import Stops
from samelists.heaps import Heap
from samelists.houses import House
from samelists.papers import paper, paper_holds
from samelists.programs import Program
from samelists.questions import can_be_one, can_change, stops, undoes
from samelists.rows import Copy, Extend, Let, Repeat
from samelists.runs import run
from samelists.starts import Start, starts


def items_of(held):
    return [held[at] for at in range(len(held))]


def drawn(seed, many, most=6):
    """Programs for `choices` within the limits, with what may be seen by and be apart."""
    some = random.Random(seed)
    for turn in range(many):
        names, asks = [("ab", 1), ("abc", 1), ("a", 2), ("abcd", 0), ("abc", 0)][turn % 5]
        made = Program()
        while not 1 <= len(made) <= most:
            made = model.some_program(some, names, most, asks, 2)
        seen = None if some.random() < 0.5 else some.choices(names, k=some.randint(0, 3))
        apart = [] if some.random() < 0.7 else [(some.choice(names), some.choice(names))]
        yield some, names, made, {"seen": seen, "apart": apart}


class ChoicesTest(unittest.TestCase):
    def check_alike(self, p, q, told, wanted):
        """Two programs are alike, or not, whichever function is asked."""
        self.assertIs(alike(p, q, **told), wanted)
        self.assertIs(alike(q, p, **told), wanted)
        least = least_start(p, q, **told)
        self.assertIs(least is None, wanted)
        shown = paper(p, q, **told)
        self.assertIs(shown is not None, wanted)
        if wanted:
            self.assertIs(paper_holds(p, q, shown, **told), True)
            self.assertTrue(follows(p, q, **told) and follows(q, p, **told))
        else:
            one, other = run(p, least), run(q, least)
            if told["seen"] is None:
                self.assertFalse(one == other)
            else:
                self.assertNotEqual(one.seen(told["seen"]), other.seen(told["seen"]))

    def test_rows_that_are_replaced_and_left_out(self):
        for some, names, made, told in drawn(111, 80):
            with self.subTest(str(made), **told):
                for at in range(len(made)):
                    self.check_alike(made, made.without(at), told, at in idle_rows(made, **told))
                for at in range(len(made.rows) - 1):
                    rows = [*made.rows[:at], made.rows[at + 1], made.rows[at], *made.rows[at + 2:]]
                    self.check_alike(made, Program(rows), told, may_change_places(made, at, **told))
                fewest = fewest_rows(made, **told)
                self.check_alike(made, fewest, told, True)
                self.assertTrue(fewest.is_part_of(made))
                for at in range(len(fewest.rows)):
                    rows = [*fewest.rows[:at], *fewest.rows[at + 1:]]
                    self.check_alike(made, Program(rows), told, False)

    def test_new_rows(self):
        for some, names, made, told in drawn(112, 80):
            growing = [at for at in range(len(made)) if isinstance(made[at], (Extend, Repeat))]
            alone = [at for at in growing if may_be_new(made, at, **told)]
            most = most_new(made, **told)
            with self.subTest(str(made), **told):
                self.assertLessEqual(set(most), set(growing))
                self.assertGreaterEqual(len(most), min(1, len(alone)))
                if len(growing) == 1:
                    self.assertEqual(list(most), alone)

    def test_copies(self):
        many = 0
        for some, names, made, told in drawn(113, 200):
            made = Program([Copy(row.name, row.other) if isinstance(row, Let) else row for row in made.rows])
            kept = fewest_copies(made, **told)
            needed = copies_needed(made, **told)
            with self.subTest(str(made), **told):
                self.assertEqual(tuple(at for at, _ in needed), kept)
                less = made
                for at in range(len(made)):
                    if isinstance(made[at], Copy) and at not in kept:
                        less = less.replaced(at, Let(made[at].name, made[at].other))
                self.assertIs(alike(made, less, **told), True)
                for at, start in needed:
                    fewer = less.replaced(at, Let(made[at].name, made[at].other))
                    self.assertEqual(least_start(made, fewer, **told), start)
                many += len(kept)
        self.assertGreater(many, 15)

    def test_where_no_starts_are_meant(self):
        for some, names, made, told in drawn(114, 30):
            told = {"seen": told["seen"], "apart": [*told["apart"], ("c", "c")]}
            growing = tuple(at for at in range(len(made)) if isinstance(made[at], (Extend, Repeat)))
            with self.subTest(str(made), **told):
                self.assertEqual(most_new(made, **told), growing)
                self.assertEqual((fewest_copies(made, **told), copies_needed(made, **told)), ((), ()))
                self.assertEqual(idle_rows(made, **told), tuple(range(len(made))))
                self.assertEqual(fewest_rows(made, **told), Program())
                self.assertIs(undoes(made, made, **told), True)
                self.assertEqual(can_be_one(made, "a", "b", apart=told["apart"]), (None, None))
                self.assertEqual(stops(made, apart=told["apart"]), ())
                self.assertIsNone(can_change(made, "a", apart=told["apart"]))
                self.assertEqual(paper(made, Program(), **told), ())


class QuestionsTest(unittest.TestCase):
    def check_start(self, start, names, apart):
        """A start that is told is one of those that are meant, as they are iterated over."""
        self.assertEqual(start.names, tuple(sorted({*names, *[name for pair in apart for name in pair]})))
        self.assertTrue(all(start[one] != start[other] for one, other in apart))
        self.assertEqual(Start.read(str(start)), start)
        if len(start) <= 1:
            self.assertIn(start, list(starts(start.names, len(start))))

    def test_stops(self):
        found = 0
        for some, names, made, told in drawn(115, 100, 12):
            for at, start in stops(made, apart=told["apart"]):
                with self.subTest(str(made), start=str(start)):
                    self.check_start(start, made.names, told["apart"])
                    self.assertEqual(run(made, start).at, at)
                    with self.assertRaises(Stops) as caught:
                        Heap(start).run(made)
                    self.assertEqual(caught.exception.at, at)
                    with self.assertRaises(Stops) as caught:
                        House(start).tried(made.rows)
                    self.assertEqual(caught.exception.at, 0)
                    desk = Desk()
                    desk.say("start " + str(start).replace("\n", " ; "))
                    self.assertEqual(desk.say("run " + str(made).replace("\n", " ; ")), f"stops {at}")
                    found += 1
            self.assertEqual(stops(made) == (), follows(Program(), made, seen=[]))
            self.assertEqual(stops(made) == (), alike(Program(), made, seen=[]))
        self.assertGreater(found, 50)

    def test_can_be_one(self):
        for some, names, made, told in drawn(116, 100):
            one, other = some.choice(names), some.choice(names)
            pair = can_be_one(made, one, other, apart=told["apart"])
            self.assertEqual(pair, can_be_one(made, other, one, apart=told["apart"]))
            for start, wanted in zip(pair, (True, False)):
                if start is not None:
                    with self.subTest(str(made), start=str(start)):
                        self.check_start(start, [*made.names, one, other], told["apart"])
                        heap = Heap(start)
                        if not run(made, start).stopped:
                            heap.run(made)
                            self.assertIs(heap[one] == heap[other], wanted)
            if pair == (None, None):
                self.assertTrue(any(one == other for one, other in told["apart"]))

    def test_can_change(self):
        found = 0
        for some, names, made, told in drawn(117, 100):
            name = some.choice(names)
            start = can_change(made, name, apart=told["apart"])
            if start is not None:
                with self.subTest(str(made), start=str(start)):
                    self.check_start(start, [*made.names, name], told["apart"])
                    heap = Heap(start)
                    held = heap[name]
                    before = items_of(held)
                    if not run(made, start).stopped:
                        heap.run(made)
                        self.assertNotEqual(items_of(held), before)
                        found += 1
        self.assertGreater(found, 10)

    def test_undoes(self):
        found = {True: 0, False: 0}
        for some, names, made, told in drawn(118, 200, 3):
            back = fewest_rows(Program([*made.rows, *made.rows]), seen=told["seen"]) if made.asks == 0 else Program()
            for other in (made, back, Program(made.rows[::-1])):
                if made.asks + other.asks + len(names) > 5:
                    continue
                answer = undoes(made, other, **told)
                both = made + other
                with self.subTest(str(made), other=str(other), **told):
                    if stops(made, apart=told["apart"]) == ():
                        self.assertIs(answer, alike(both, Program(), **told))
                    if alike(both, Program(), **told):
                        self.assertIs(answer, True)
                    if answer:
                        # From where the first program does not stop, both lead back.
                        self.assertIs(undoes(made, other, seen=[], apart=told["apart"]), True)
                        self.assertIs(follows(made, both, seen=[], apart=told["apart"]), True)
                found[answer] += 1
        self.assertGreater(min(found.values()), 40)


class SameAnswersTest(unittest.TestCase):
    """Point 2: whatever calls are made in between, and nothing that is passed is changed."""

    def answers(self, made, other, told):
        shown = paper(made, other, **told)
        return [
            alike(made, other, **told), least_start(made, other, **told), follows(made, other, **told),
            least_unlike(made, other, **told), apart_needed(made, other, seen=told["seen"]), shown,
            paper_holds(made, other, shown, **told), most_new(made, **told), fewest_copies(made, **told),
            copies_needed(made, **told), idle_rows(made, **told), fewest_rows(made, **told),
            [may_change_places(made, at, **told) for at in range(len(made.rows) - 1)],
            can_be_one(made, "a", "b", apart=told["apart"]), stops(made, apart=told["apart"]),
            can_change(made, "b", apart=told["apart"]), undoes(made, other, **told),
        ]

    def test_all_functions(self):
        kept = []
        for some, names, made, told in drawn(119, 30, 5):
            other = model.near_program(some, made, names, made.asks)
            texts = str(made), str(other), str(told)
            kept.append((made, other, told, texts, self.answers(made, other, told)))
        for made, other, told, texts, answers in kept[::-1]:
            with self.subTest(str(made), other=str(other), **told):
                self.assertEqual(self.answers(made, other, told), answers)
                self.assertEqual((str(made), str(other), str(told)), texts)

    def test_a_house_does_not_change_what_is_asked_of_its_start(self):
        start = Start.read("a 0\nb 0\nopened 0")
        made = Program.read("append a b\nif full b\npop a\nend")
        house, heap = House(start), Heap(start)
        before = run(made, start)
        for row in made.rows:
            house.do(row)
        heap.run(made)
        self.assertEqual((house.start(), heap.start()), (start, start))
        heap["a"].clear()
        self.assertEqual((house.start(), str(start)), (start, "a 0\nb 0\nopened 0"))
        self.assertEqual(run(made, start), before)
