"""Points 6, 7 and 21: heaps, and what each row does on one."""

import random
import unittest

import model
from samelists.errors import NoName, Stops
from samelists.heaps import Heap, Held
from samelists.programs import Program
from samelists.rows import Append, Clear, If, Let, New, Open, Pop
from samelists.starts import Start, starts

# Start, row (or rows), and the start that the heap is then; lines are separated by "; ".
DONE = [
    ("a 0; b 1; opened; frozen", "let a b", "a 0; b 0; frozen"),
    ("a 0; b 1; opened 1; opened", "let b b", "a 0; b 1; opened 1; opened"),
    ("a 0; b 1; opened; frozen", "swap a b", "a 0; b 1; frozen; opened"),
    ("a 0; b 0; opened", "swap a b", "a 0; b 0; opened"),
    ("a 0; opened 0", "swap a a", "a 0; opened 0"),
    ("a 0; b 1; opened; frozen", "new a", "a 0; b 1; opened; frozen"),
    ("a 0; b 1; frozen; frozen", "new a", "a 0; b 1; opened; frozen"),
    ("a 0; b 1; opened; frozen", "new a b a b b", "a 0; b 1; opened 1 2 1 1; frozen; opened"),
    ("a 0; opened", "new a a", "a 0; opened 1; opened"),
    ("a 0; b 1; opened; opened", "seal a", "a 0; b 1; frozen; opened"),
    ("a 0; b 1; opened; frozen", "seal b a b", "a 0; b 1; opened; frozen 0 2; frozen"),
    ("a 0; frozen 0", "seal a a", "a 0; frozen 1; frozen 1"),
    # A sum is open or frozen as its first part is, whatever the other one is.
    ("a 0; b 1; opened 0; opened 1 0", "join a a b", "a 0; b 1; opened 2 1 2; opened 1 2; opened 2"),
    ("a 0; b 1; c 0; opened 0; frozen 1", "join c a b", "a 0; b 1; c 2; opened 0; frozen 1; opened 0 1"),
    ("a 0; b 1; c 0; opened 0; frozen 1", "join c b a", "a 0; b 1; c 2; opened 0; frozen 1; frozen 1 0"),
    ("a 0; b 0; frozen 0", "join b a a", "a 0; b 1; frozen 0; frozen 0 0"),
    ("a 0; b 1; opened; opened", "join b a a", "a 0; b 1; opened; opened"),
    ("a 0; b 0; opened", "join b a a", "a 0; b 1; opened; opened"),
    ("a 0; b 0; opened 1 0; opened", "times b a 0", "a 0; b 1; opened 2 0; opened; opened"),
    ("a 0; b 0; opened 1 0; opened", "times b a 1", "a 0; b 1; opened 2 0; opened 2 0; opened"),
    ("a 0; b 0; frozen 1 0; opened", "times b a 1", "a 0; b 1; frozen 2 0; frozen 2 0; opened"),
    ("a 0; b 0; opened 1 0; opened", "times b a 2", "a 0; b 1; opened 2 0; opened 2 0 2 0; opened"),
    ("a 0; frozen 1; opened", "times a a 3", "a 0; frozen 1 1 1; opened"),
    ("a 0; b 0; opened 0 1; frozen", "copy b a", "a 0; b 1; opened 0 2; opened 0 2; frozen"),
    ("a 0; b 1; frozen 0; opened", "copy b a", "a 0; b 0; frozen 0"),
    ("a 0; opened 0", "copy a a", "a 0; opened 1; opened 1"),
    ("a 0; b 0; opened 1 2; frozen; opened", "first b a", "a 0; b 1; opened 1 2; frozen; opened"),
    ("a 0; b 0; frozen 1 2; frozen; opened", "first b a", "a 0; b 1; frozen 1 2; frozen; opened"),
    ("a 0; opened 0", "first a a", "a 0; opened 0"),
    ("a 0; b 0; opened 1 2; frozen; opened", "last b a", "a 0; b 1; opened 2 1; opened; frozen"),
    ("a 0; b 0; frozen 1 2; frozen; opened", "last b a", "a 0; b 1; frozen 2 1; opened; frozen"),
    ("a 0; opened 1; frozen", "last a a", "a 0; frozen"),
    # In place, so another name of the list sees it, too.
    ("a 0; b 1; c 0; opened 1; opened 0 0", "extend a b", "a 0; b 1; c 0; opened 1 0 0; opened 0 0"),
    ("a 0; b 1; c 0; opened 1; frozen 0 0", "extend a b", "a 0; b 1; c 0; opened 1 0 0; frozen 0 0"),
    ("a 0; b 1; c 0; frozen 1; opened 0 0", "extend a b", "a 0; b 1; c 2; frozen 1 2 2; opened 2 2; frozen 1"),
    ("a 0; b 0; opened 0 1; opened", "extend a b", "a 0; b 0; opened 0 1 0 1; opened"),
    ("a 0; b 0; opened 0 1; opened", "extend a a", "a 0; b 0; opened 0 1 0 1; opened"),
    ("a 0; b 0; frozen 0", "extend a a", "a 0; b 1; frozen 1 1; frozen 1"),
    ("a 0; b 1; c 0; frozen; opened", "extend a b", "a 0; b 1; c 2; frozen; opened; frozen"),
    ("a 0; b 0; opened 0 1; opened", "repeat a 0", "a 0; b 0; opened"),
    ("a 0; b 0; opened 0 1; opened", "repeat a 1", "a 0; b 0; opened 0 1; opened"),
    ("a 0; b 0; opened 0 1; opened", "repeat a 3", "a 0; b 0; opened 0 1 0 1 0 1; opened"),
    ("a 0; b 0; frozen 0 1; opened", "repeat a 0", "a 0; b 1; frozen; frozen 1 2; opened"),
    ("a 0; b 0; frozen 0 1; opened", "repeat a 1", "a 0; b 1; frozen 1 2; frozen 1 2; opened"),
    ("a 0; b 0; frozen 0 1; opened", "repeat a 2", "a 0; b 1; frozen 1 2 1 2; frozen 1 2; opened"),
    ("a 0; b 1; c 0; opened 0; opened 1 0", "assign a b", "a 0; b 1; c 0; opened 1 0; opened 1 0"),
    ("a 0; b 1; c 0; opened 0; frozen 1 0", "assign a b", "a 0; b 1; c 0; opened 1 0; frozen 1 0"),
    ("a 0; b 0; opened 0 1; opened", "assign a b", "a 0; b 0; opened 0 1; opened"),
    ("a 0; b 0; opened 1; opened", "append a b", "a 0; b 0; opened 1 0; opened"),
    ("a 0; b 1; c 0; opened 2; frozen; opened", "append a b", "a 0; b 1; c 0; opened 2 1; frozen; opened"),
    ("a 0; b 0; opened 1; opened", "prepend a b", "a 0; b 0; opened 0 1; opened"),
    ("a 0; b 1; c 0; opened 2; frozen; opened", "prepend a b", "a 0; b 1; c 0; opened 1 2; frozen; opened"),
    ("a 0; b 0; opened 0 1; frozen", "clear a", "a 0; b 0; opened"),
    ("a 0; opened", "clear a", "a 0; opened"),
    ("a 0; b 0; opened 0 1 2; frozen; opened 1", "turn a", "a 0; b 0; opened 1 2 0; opened 2; frozen"),
    ("a 0; opened", "turn a", "a 0; opened"),
    ("a 0; b 0; opened 0 1 2; frozen; opened 1", "pop a", "a 0; b 0; opened 0 1; frozen"),
    ("a 0; opened 0", "pop a", "a 0; opened"),
    ("a 0; b 0; opened 0 1 2; frozen; opened 1", "shift a", "a 0; b 0; opened 1 2; frozen; opened 1"),
    ("a 0; b 1; c 0; opened 2 3; frozen; opened; opened 0", "head a b", "a 0; b 1; c 0; opened 1 2; frozen; opened 0"),
    ("a 0; b 1; c 0; opened 2 3; frozen; opened; opened 0", "tail a b", "a 0; b 1; c 0; opened 2 1; frozen; opened"),
    ("a 0; opened 1; opened", "head a a", "a 0; opened 0"),
    ("a 0; opened 1 1; opened", "tail a a", "a 0; opened 1 0; opened"),
    # Blocks, also within blocks.
    ("a 0; b 0; opened", "if same a b; append a a; else; clear a; pop a; end", "a 0; b 0; opened 0"),
    ("a 0; b 1; opened; opened", "if same a b; pop a; else; append a a; append b a; end",
     "a 0; b 1; opened 0; opened 0"),
    ("a 0; opened", "if same a a; new a a; end", "a 0; opened 1; opened"),
    ("a 0; opened", "if open a; new a a; end", "a 0; opened 1; opened"),
    ("a 0; frozen", "if open a; pop a; else; new a a; end", "a 0; opened 1; frozen"),
    ("a 0; frozen 0", "if full a; new a; else; pop a; end", "a 0; opened"),
    ("a 0; frozen", "if full a; pop a; end; seal a a", "a 0; frozen 1; frozen"),
    ("a 0; opened", "if full a; else; append a a; end; append a a", "a 0; opened 0 0"),
    ("a 0; b 1; opened; frozen",
     "if open a; if open b; pop a; else; if full b; pop a; else; append a b; end; append a a; end; let b a; end",
     "a 0; b 0; opened 1 0; frozen"),
    ("a 0; b 0; opened", "append a a; new b a; append a b; pop b; append b b", "a 0; b 1; opened 0 1; opened 1"),
    ("a 0; b 1; opened; frozen", "", "a 0; b 1; opened; frozen"),
]

# Start, rows, the number of the row that stops, and the start that the heap is then.
STOPPED = [
    ("a 0; b 0; opened", "first b a", 0, "a 0; b 0; opened"),
    ("a 0; b 0; frozen", "first b a", 0, "a 0; b 0; frozen"),
    ("a 0; b 0; opened", "last b a", 0, "a 0; b 0; opened"),
    ("a 0; b 0; frozen", "last b a", 0, "a 0; b 0; frozen"),
    ("a 0; opened", "pop a", 0, "a 0; opened"),
    ("a 0; opened", "shift a", 0, "a 0; opened"),
    ("a 0; b 1; opened; opened", "head a b", 0, "a 0; b 1; opened; opened"),
    ("a 0; b 1; opened; opened", "tail a b", 0, "a 0; b 1; opened; opened"),
    ("a 0; frozen 0", "pop a", 0, "a 0; frozen 0"),
    ("a 0; frozen 0", "shift a", 0, "a 0; frozen 0"),
    ("a 0; frozen", "pop a", 0, "a 0; frozen"),
    ("a 0; b 1; frozen 0; opened", "head a b", 0, "a 0; b 1; frozen 0; opened"),
    ("a 0; b 1; frozen 0; opened", "tail a b", 0, "a 0; b 1; frozen 0; opened"),
    ("a 0; b 1; frozen 0; opened", "assign a b", 0, "a 0; b 1; frozen 0; opened"),
    ("a 0; frozen 0", "assign a a", 0, "a 0; frozen 0"),
    ("a 0; b 1; frozen 0; opened", "append a b", 0, "a 0; b 1; frozen 0; opened"),
    ("a 0; b 1; frozen 0; opened", "prepend a b", 0, "a 0; b 1; frozen 0; opened"),
    ("a 0; frozen 0", "clear a", 0, "a 0; frozen 0"),
    ("a 0; frozen", "clear a", 0, "a 0; frozen"),
    ("a 0; frozen", "turn a", 0, "a 0; frozen"),
    # What was done ahead stays done, what comes behind is not done.
    ("a 0; b 0; opened", "append a a; pop a; pop a; append b b", 2, "a 0; b 0; opened"),
    ("a 0; b 1; opened 1; opened", "let b a; pop b; shift a; new a", 2, "a 0; b 0; opened"),
    # The blocks and their rows have numbers, too.
    ("a 0; opened", "if open a; append a a; clear a; pop a; append a a; end; append a a", 3, "a 0; opened"),
    ("a 0; opened", "if full a; turn a; clear a; else; pop a; end", 3, "a 0; opened"),
    ("a 0; opened", "if full a; if open a; turn a; else; clear a; clear a; end; else; append a a; end; clear a; pop a",
     7, "a 0; opened"),
    ("a 0; b 1; frozen; opened", "append b a; if same a b; else; if open b; if open a; else; append a b; end; end; end",
     4, "a 0; b 1; frozen; opened 0"),
]


def lines(text):
    return text.replace("; ", "\n")


def start_of(text):
    return Start.read(lines(text))


class RowsTest(unittest.TestCase):
    def test_rows_that_are_done(self):
        for text, rows, then in DONE:
            with self.subTest(text, rows=rows):
                heap = Heap(start_of(text))
                self.assertIsNone(heap.run(Program.read(lines(rows))))
                self.assertEqual(str(heap.start()), lines(then))

    def test_rows_that_stop(self):
        for text, rows, at, then in STOPPED:
            with self.subTest(text, rows=rows):
                heap = Heap(start_of(text))
                with self.assertRaises(Stops) as caught:
                    heap.run(Program.read(lines(rows)))
                self.assertEqual(caught.exception.at, at)
                self.assertEqual(str(heap.start()), lines(then))

    def test_each_row_from_all_starts_with_few_items(self):
        rows = [kind("a", "b") for kind in model.STEPS if kind.__name__ in (
            "Let", "Swap", "Copy", "First", "Last", "Extend", "Assign", "Append", "Prepend", "Head", "Tail")]
        rows += [kind("a") for kind in model.STEPS if kind.__name__ in ("Clear", "Turn", "Pop", "Shift")]
        texts = ["new a", "new a b a", "seal a", "seal b a b a b", "join a a b", "join a b a", "join b b b"]
        texts += [f"times a b {count}" for count in range(4)] + [f"repeat b {count}" for count in range(4)]
        programs = [Program([row]) for row in rows] + [Program.read(text) for text in texts]
        self.assertEqual({type(row) for program in programs for row in program.rows}, set(model.STEPS))
        for program in programs:
            for items in range(3):
                for start in starts(["a", "b"], items):
                    self.check(program, start)

    def test_random_programs(self):
        some = random.Random(21)
        given = [start for items in range(3) for start in starts(["a", "b", "c"], items)]
        for _ in range(1500):
            self.check(model.some_program(some, ["a", "b", "c"], 6, 12, 3), some.choice(given))

    def check(self, program, start):
        """Runs a program on a heap, and again with Python's lists."""
        _, held = model.boxes_of(start)
        stop = model.do_all(held, program.rows)
        heap = Heap(start)
        if stop is None:
            self.assertIsNone(heap.run(program))
        else:
            with self.assertRaises(Stops) as caught:
                heap.run(program)
            self.assertEqual(caught.exception.at, stop)
        now = heap.start()
        self.assertEqual((now.holders, now.lists, now.frozen), model.told([], held), (str(program), str(start)))


class HeapTest(unittest.TestCase):
    def setUp(self):
        self.start = start_of("a 0; b 1; opened 1 2 0; frozen 0; opened")
        self.heap = Heap(self.start)

    def test_names_and_start(self):
        self.assertEqual(self.heap.names, ("a", "b"))
        self.assertEqual(self.heap.start(), self.start)
        for items in range(3):
            for start in starts(["c", "b", "aa"], items):
                heap = Heap(start=start)
                self.assertEqual(heap.names, ("aa", "b", "c"))
                self.assertEqual(heap.start(), start)

    def test_index_is_an_object_for_the_list_at_this_moment(self):
        one = self.heap["a"]
        self.assertIsInstance(one, Held)
        self.assertTrue(one == self.heap["a"])
        self.heap["a"] = self.heap["b"]
        self.assertTrue(self.heap["a"] == self.heap["b"])
        self.assertFalse(one == self.heap["a"])
        self.assertTrue(self.heap["a"][0] == one)

    def test_no_name(self):
        for name in ("c", "", "A", "ab", "a ", 0, 1, None, True, [], ("a",), ["a"]):
            with self.assertRaises(NoName) as caught:
                self.heap[name]
            self.assertIs(caught.exception.name, name)
            with self.assertRaises(NoName) as caught:
                self.heap[name] = self.heap["a"]
            self.assertIs(caught.exception.name, name)
        self.assertEqual(self.heap.names, ("a", "b"))
        self.assertEqual(self.heap.start(), self.start)

    def test_first_name_of_a_program_that_is_none(self):
        for text, name in [
            ("append a a; let d c", "c"), ("append a c; let aa b", "aa"), ("pop a; pop a; pop a; let a z", "z"),
            ("append a a; if same a b; if open c; end; end", "c"),
        ]:
            with self.assertRaises(NoName) as caught:
                self.heap.run(Program.read(lines(text)))
            self.assertEqual(caught.exception.name, name)
            self.assertEqual(self.heap.start(), self.start)

    def test_no_name_comes_ahead_of_stops(self):
        heap = Heap(start_of("a 0; opened"))
        with self.assertRaises(NoName) as caught:
            heap.run(Program([Pop("a"), Let("b", "a")]))
        self.assertEqual(caught.exception.name, "b")

    def test_names_set_to_items(self):
        self.heap["b"] = self.heap["a"][1]
        self.assertEqual(self.heap.start(), start_of("a 0; b 1; opened 2 1 0; opened; frozen 0"))
        self.heap["a"] = self.heap["a"][0]
        self.assertEqual(self.heap.start(), start_of("a 0; b 1; frozen 2; opened; opened 0 1 2"))
        self.heap["a"] = self.heap["a"]
        self.assertEqual(self.heap.start(), start_of("a 0; b 1; frozen 2; opened; opened 0 1 2"))

    def test_names_set_to_new_lists(self):
        self.heap["a"] = self.heap.opened(self.heap["b"], self.heap["a"], self.heap["b"])
        self.assertEqual(self.heap.start(), start_of("a 0; b 1; opened 1 2 1; frozen 2; opened 1 3 2; opened"))
        self.heap["b"] = self.heap.sealed()
        self.assertEqual(self.heap.start(), start_of("a 0; b 1; opened 2 3 2; frozen; frozen 3; opened 2 4 3; opened"))
        self.heap["a"] = self.heap.sealed(self.heap["b"], self.heap.opened())
        self.assertEqual(self.heap.start(), start_of("a 0; b 1; frozen 1 2; frozen; opened"))

    def test_new_lists_are_other_ones_each_time(self):
        self.assertFalse(self.heap.opened() == self.heap.opened())
        self.assertFalse(self.heap.sealed() == self.heap.sealed())
        self.assertIs(self.heap.opened().is_frozen, False)
        self.assertIs(self.heap.sealed().is_frozen, True)
        six = [self.heap["a"], self.heap["b"]] * 3
        self.assertEqual(len(self.heap.opened(*six)), 6)
        made = self.heap.sealed(*six)
        self.assertEqual([made[at] == six[at] for at in range(6)], [True] * 6)
        self.assertEqual(self.heap.start(), self.start)

    def test_a_list_that_is_passed_can_be_changed_on(self):
        one = self.heap.opened()
        self.heap["a"] = self.heap.sealed(one)
        one.append(one)
        self.assertEqual(self.heap.start(), start_of("a 0; b 1; frozen 2; frozen 3; opened 2; opened 1 4 3; opened"))
        self.heap["a"] = one
        one.clear()
        self.assertEqual(str(self.heap.start()).split("\n")[2], "opened")

    def test_extend_by_sign(self):
        for text in ["a 0; b 1; opened 1; opened 0 0", "a 0; b 1; frozen 1; opened 0 0", "a 0; b 0; opened 0",
                     "a 0; b 0; frozen 0", "a 0; b 1; frozen 1; frozen 0"]:
            heap, other = Heap(start_of(text)), Heap(start_of(text))
            heap["a"] += heap["b"]
            other.run(Program.read("extend a b"))
            self.assertEqual(heap.start(), other.start())
            heap["b"] *= 2
            other.run(Program.read("repeat b 2"))
            self.assertEqual(heap.start(), other.start())

    def test_two_heaps_of_one_start_and_the_start_itself(self):
        told = str(self.start)
        other = Heap(self.start)
        self.heap.run(Program([Clear("a"), New("b")]))
        self.assertEqual(str(self.start), told)
        self.assertEqual(other.start(), self.start)
        other["a"].append(other["b"])
        self.assertEqual(str(self.start), told)
        self.assertEqual(self.heap.start(), start_of("a 0; b 1; opened; opened"))
        self.assertFalse(other["a"] == self.heap["a"])
        then = other.start()
        other["a"].clear()
        self.assertEqual(then, start_of("a 0; b 1; opened 1 2 0 1; frozen 0; opened"))

    def test_lists_that_were_given_up_can_come_back(self):
        kept = self.heap["a"]
        self.heap["a"] = self.heap["b"] = self.heap.opened()
        self.assertEqual(self.heap.start(), start_of("a 0; b 0; opened"))
        kept.pop()
        self.heap["b"] = kept
        self.assertEqual(self.heap.start(), start_of("a 0; b 1; opened; opened 2 3; frozen 1; opened"))

    def test_a_row_that_stops_within_a_block(self):
        heap = Heap(start_of("a 0; opened"))
        program = Program([Append("a", "a"), If(Open("a"), [Pop("a"), If(Open("a"), [Pop("a")]), Append("a", "a")])])
        with self.assertRaises(Stops) as caught:
            heap.run(program=program)
        self.assertEqual(caught.exception.at, 4)
        self.assertEqual(heap.start(), start_of("a 0; opened"))

    def test_a_heap_is_not_iterated_over(self):
        self.assertRaises(TypeError, iter, self.heap)
