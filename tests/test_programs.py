"""Points 15 and 16: programs, their rows by number, and what they ask."""

import itertools
import unittest

from samelists.errors import InvalidRow, NoRow
from samelists.programs import Program
from samelists.rows import (
    Append, Assign, Clear, Copy, Extend, First, Full, Head, If, Join, Last, Let, New, Open, Pop, Prepend,
    Repeat, Same, Seal, Shift, Swap, Tail, Times, Turn,
)
from samelists.starts import Start

A, B, C, D, E, F = Let("a", "b"), Pop("b"), Clear("c"), Turn("d"), Shift("e"), Head("f", "a")
INNER = If(Full("x"), [B], [C, D])
OUTER = If(Same("y", "z"), [INNER, E], [F])
NESTED = Program([A, OUTER, B])
#        0 A / 1 OUTER / 2 INNER / 3 B / 4 C / 5 D / 6 E / 7 F / 8 B
NUMBERED = [A, OUTER, INNER, B, C, D, E, F, B]
ASKING = [First("a", "b"), Last("a", "b"), Pop("a"), Shift("a"), Head("a", "b"), Tail("a", "b")]
NOT_ASKING = [
    Let("a", "b"), Swap("a", "b"), New("a", "b"), Seal("a"), Join("a", "b", "b"), Times("a", "b", 2), Copy("a", "b"),
    Extend("a", "b"), Repeat("a", 2), Assign("a", "b"), Append("a", "b"), Prepend("a", "b"), Clear("a"), Turn("a"),
]
NO_PROGRAMS = [None, True, False, 0, 1, "", "let a b", "a", {"a": 1}, A, Open("a"), Program(), Program([A]),
               Start({"a": 0}, [[]]), [None], [A, None], [A, "let a b"], [[A]], [()], (Open("a"),), (A, Program()),
               [True], [[[[[[[["a"]]]]]]]]]


def lines(*texts):
    return "\n".join(texts)


class ConstructorTest(unittest.TestCase):
    def test_rows(self):
        for rows in ([A, B], (A, B)):
            self.assertEqual(Program(rows).rows, (A, B))
            self.assertIs(type(Program(rows).rows), tuple)
            self.assertEqual(Program(rows=rows).rows, (A, B))

    def test_empty(self):
        for empty in (Program(), Program([]), Program(()), Program(rows=[])):
            self.assertEqual(empty.rows, ())
            self.assertEqual(empty.names, ())
            self.assertEqual(empty.asks, 0)
            self.assertEqual(len(empty), 0)
            self.assertEqual(str(empty), "")

    def test_wrong(self):
        for wrong in NO_PROGRAMS:
            with self.subTest(wrong=wrong):
                with self.assertRaises(InvalidRow) as caught:
                    Program(wrong)
                self.assertEqual(caught.exception.word, "row")

    def test_what_is_passed_may_be_changed(self):
        rows = [A, B]
        program = Program(rows)
        rows.append(C)
        rows[0] = D
        self.assertEqual(program, Program([A, B]))
        self.assertEqual(len(program), 2)
        self.assertEqual(rows, [D, B, C])

    def test_forty_rows(self):
        program = Program([A, B] * 20)
        self.assertEqual(len(program), 40)
        self.assertEqual(Program.read(str(program)), program)


class NamesTest(unittest.TestCase):
    def test_ascending_each_once(self):
        self.assertEqual(Program([Let("c", "a"), Pop("c"), Turn("bb")]).names, ("a", "bb", "c"))
        self.assertEqual(Program([New("x"), New("x", "x")]).names, ("x",))

    def test_blocks(self):
        self.assertEqual(NESTED.names, ("a", "b", "c", "d", "e", "f", "x", "y", "z"))
        self.assertEqual(Program([If(Open("q"), [])]).names, ("q",))
        self.assertEqual(Program([If(Same("r", "q"), [], [A])]).names, ("a", "b", "q", "r"))

    def test_with_operators(self):
        self.assertEqual((Program([Pop("z")]) + Program([Pop("a")])).names, ("a", "z"))
        self.assertEqual(NESTED.without(1).names, ("a", "b"))
        self.assertEqual(NESTED.replaced(1, Pop("q")).names, ("a", "b", "q"))
        self.assertEqual((Program([A]) * 0).names, ())


class NumbersTest(unittest.TestCase):
    def test_length(self):
        self.assertEqual(len(Program([A, B, C])), 3)
        self.assertEqual(len(NESTED), 9)
        self.assertEqual(len(Program([If(Open("a"), [])])), 1)
        self.assertEqual(len(Program([If(Open("a"), [], [A])])), 2)

    def test_rows_by_number(self):
        self.assertEqual([NESTED[at] for at in range(9)], NUMBERED)
        self.assertEqual([Program([A, B, C])[at] for at in range(3)], [A, B, C])

    def test_numbers_are_those_of_the_lines(self):
        for program in (NESTED, NESTED + NESTED, Program([INNER, OUTER])):
            found = [line for line in str(program).split("\n") if line not in ("else", "end")]
            self.assertEqual([str(program[at]).split("\n")[0] for at in range(len(program))], found)

    def test_no_such_row(self):
        for program in (NESTED, Program([A]), Program()):
            size = len(program)
            for at in (-1, -2, -size - 1, -100, size, size + 1, 10 ** 30, -10 ** 30):
                with self.subTest(size=size, at=at):
                    with self.assertRaises(NoRow) as caught:
                        program[at]
                    self.assertEqual(caught.exception.at, at)
                    with self.assertRaises(NoRow) as caught:
                        program.without(at)
                    self.assertEqual(caught.exception.at, at)
                    with self.assertRaises(NoRow) as caught:
                        program.replaced(at, A)
                    self.assertEqual(caught.exception.at, at)


class WithoutTest(unittest.TestCase):
    def test_plain_rows(self):
        program = Program([A, B, C, B])
        self.assertEqual(program.without(0), Program([B, C, B]))
        self.assertEqual(program.without(at=3), Program([A, B, C]))
        self.assertEqual(program.without(1, 3), Program([A, C]))
        self.assertEqual(program.without(3, 1), Program([A, C]))
        self.assertEqual(program.without(0, 1, 2, 3), Program())

    def test_a_number_twice(self):
        self.assertEqual(Program([A, B, C]).without(1, 1), Program([A, C]))
        self.assertEqual(NESTED.without(8, 0, 8, 0), Program([OUTER]))

    def test_rows_within_blocks(self):
        for at, text in [
            (2, "let a b|if same y z|shift e|else|head f a|end|pop b"),
            (3, "let a b|if same y z|if full x|else|clear c|turn d|end|shift e|else|head f a|end|pop b"),
            (4, "let a b|if same y z|if full x|pop b|else|turn d|end|shift e|else|head f a|end|pop b"),
            (5, "let a b|if same y z|if full x|pop b|else|clear c|end|shift e|else|head f a|end|pop b"),
            (6, "let a b|if same y z|if full x|pop b|else|clear c|turn d|end|else|head f a|end|pop b"),
            (7, "let a b|if same y z|if full x|pop b|else|clear c|turn d|end|shift e|end|pop b"),
        ]:
            self.assertEqual(str(NESTED.without(at)), text.replace("|", "\n"))

    def test_a_block_with_all_rows_in_it(self):
        self.assertEqual(NESTED.without(1), Program([A, B]))
        self.assertEqual(NESTED.without(1, 3, 7), Program([A, B]))
        self.assertEqual(NESTED.without(5, 2, 0), Program([If(OUTER.test, [E], [F]), B]))

    def test_an_emptied_block_stays(self):
        self.assertEqual(NESTED.without(3, 4, 5, 6, 7),
                         Program([A, If(OUTER.test, [If(INNER.test, [])]), B]))

    def test_against_the_lines(self):
        # The lines of rows that are left out, with those of their blocks, are left out of the text.
        for gone in itertools.combinations(range(9), 3):
            left = NESTED.without(*gone)
            within = {1: {2, 3, 4, 5, 6, 7}, 2: {3, 4, 5}}
            all_gone = set(gone).union(*[within.get(at, set()) for at in gone])
            kept = [NUMBERED[at] for at in range(9) if at not in all_gone]
            self.assertEqual([str(row).split("\n")[0] for row in [left[at] for at in range(len(left))]],
                             [str(row).split("\n")[0] for row in kept])

    def test_the_first_wrong_number_is_told(self):
        for numbers, at in [((0, 9), 9), ((9, -1), 9), ((-1, 9), -1), ((1, 2, 30, 40), 30), ((8, 8, -5), -5)]:
            with self.assertRaises(NoRow) as caught:
                NESTED.without(*numbers)
            self.assertEqual(caught.exception.at, at)


class ReplacedTest(unittest.TestCase):
    def test_plain_rows(self):
        program = Program([A, B, C])
        self.assertEqual(program.replaced(0, D), Program([D, B, C]))
        self.assertEqual(program.replaced(2, D), Program([A, B, D]))
        self.assertEqual(program.replaced(row=INNER, at=1), Program([A, INNER, C]))

    def test_blocks(self):
        self.assertEqual(NESTED.replaced(1, C), Program([A, C, B]))
        self.assertEqual(NESTED.replaced(2, OUTER), Program([A, If(OUTER.test, [OUTER, E], [F]), B]))
        self.assertEqual(NESTED.replaced(8, OUTER), Program([A, OUTER, OUTER]))

    def test_rows_within_blocks(self):
        for at in (0, 3, 4, 5, 6, 7, 8):
            made = NESTED.replaced(at, Seal("q", "r"))
            self.assertEqual(len(made), 9)
            lines_before, lines_behind = str(NESTED).split("\n"), str(made).split("\n")
            changed = [k for k in range(len(lines_before)) if lines_before[k] != lines_behind[k]]
            self.assertEqual([lines_behind[k] for k in changed], ["seal q r"])
            self.assertEqual(made[at], Seal("q", "r"))
            self.assertEqual([made[k] for k in (0, 3, 4, 5, 6, 7, 8) if k != at],
                             [NUMBERED[k] for k in (0, 3, 4, 5, 6, 7, 8) if k != at])

    def test_no_row(self):
        for wrong in [None, True, 0, "", "let a b", [], [A], (A,), Open("a"), Program(), Program([A])]:
            with self.assertRaises(InvalidRow) as caught:
                NESTED.replaced(0, wrong)
            self.assertEqual(caught.exception.word, "row")

    def test_numbers_come_ahead_of_rows(self):
        for at in (-1, 9):
            with self.assertRaises(NoRow) as caught:
                NESTED.replaced(at, None)
            self.assertEqual(caught.exception.at, at)


class OperatorsTest(unittest.TestCase):
    def test_sum(self):
        self.assertEqual(Program([A]) + Program([B, C]), Program([A, B, C]))
        self.assertEqual(Program([B, C]) + Program([A]), Program([B, C, A]))
        self.assertEqual(NESTED + Program(), NESTED)
        self.assertEqual(Program() + NESTED, NESTED)
        self.assertEqual(len(NESTED + NESTED), 18)
        self.assertIsInstance(Program() + Program(), Program)

    def test_product(self):
        for count in range(5):
            self.assertEqual(Program([A, B]) * count, Program([A, B] * count))
            self.assertEqual(count * Program([A, B]), Program([A, B] * count))
            self.assertEqual(len(NESTED * count), 9 * count)
            self.assertEqual((NESTED * count).asks, NESTED.asks * count)

    def test_equality(self):
        self.assertIs(Program([A, OUTER]) == Program((A, OUTER)), True)
        self.assertIs(Program([A, OUTER]) != Program((A, OUTER)), False)
        self.assertIs(Program() == Program([]), True)
        for other in (Program([A]), Program([OUTER, A]), Program([A, OUTER, A]), Program(), Program([A, INNER])):
            self.assertIs(Program([A, OUTER]) == other, False)
            self.assertIs(Program([A, OUTER]) != other, True)

    def test_equal_to_nothing_else(self):
        class Yes:
            def __eq__(self, other):
                return True

        for program in (Program(), Program([A]), NESTED):
            for other in (None, True, False, 0, "", str(program), program.rows, list(program.rows), A, OUTER,
                          Open("a"), Start({"a": 0}, [[]]), Yes()):
                self.assertIs(program == other, False)
                self.assertIs(program != other, True)

    def test_wrong_operands(self):
        for other in (None, "let a b", [A], (A,), A, 1):
            with self.assertRaises(TypeError):
                Program() + other
        for other in (None, "2", [A], Program()):
            with self.assertRaises(TypeError):
                Program() * other


class PartTest(unittest.TestCase):
    def test_all_parts(self):
        rows = [A, B, A, INNER, OUTER]
        whole = Program(rows)
        for size in range(6):
            for places in itertools.combinations(range(5), size):
                self.assertIs(Program([rows[at] for at in places]).is_part_of(whole), True)

    def test_against_all_choices(self):
        for size in range(5):
            for rows in itertools.product([A, B, C], repeat=size):
                whole = [A, B, B, A]
                parts = [tuple(whole[at] for at in places) for places in itertools.combinations(range(4), size)]
                self.assertIs(Program(rows).is_part_of(Program(whole)), any(rows == part for part in parts))

    def test_rows_within_a_block_are_not_taken_by_themselves(self):
        self.assertIs(Program([INNER]).is_part_of(Program([OUTER])), False)
        self.assertIs(Program([B]).is_part_of(Program([INNER])), False)
        self.assertIs(Program([If(INNER.test, [B])]).is_part_of(Program([INNER])), False)
        self.assertIs(Program([INNER]).is_part_of(Program([A, INNER])), True)

    def test_edges(self):
        self.assertIs(Program().is_part_of(Program()), True)
        self.assertIs(Program().is_part_of(other=NESTED), True)
        self.assertIs(Program([A]).is_part_of(Program()), False)
        self.assertIs(Program([A, A]).is_part_of(Program([A])), False)
        self.assertIs(Program([B, A]).is_part_of(Program([A, B])), False)


class AsksTest(unittest.TestCase):
    def test_each_row(self):
        for row in ASKING:
            self.assertEqual(Program([row]).asks, 1)
        for row in NOT_ASKING:
            self.assertEqual(Program([row]).asks, 0)

    def test_sum(self):
        self.assertEqual(Program(ASKING + NOT_ASKING + ASKING).asks, 12)
        self.assertEqual((Program(ASKING) + Program(ASKING[:2])).asks, 8)

    def test_tests(self):
        self.assertEqual(Program([If(Full("a"), [])]).asks, 1)
        self.assertEqual(Program([If(Open("a"), [])]).asks, 0)
        self.assertEqual(Program([If(Same("a", "b"), [])]).asks, 0)

    def test_the_greater_side(self):
        for test, more in ((Full("a"), 1), (Open("a"), 0), (Same("a", "b"), 0)):
            for rows in range(4):
                for others in range(4):
                    block = If(test, [Pop("a")] * rows, [Shift("b")] * others)
                    self.assertEqual(Program([block]).asks, more + max(rows, others))
                    self.assertEqual(Program([block, A, block]).asks, 2 * (more + max(rows, others)))

    def test_blocks_within_blocks(self):
        self.assertEqual(Program([INNER]).asks, 2)  # 1 + max(1, 0)
        self.assertEqual(Program([OUTER]).asks, 3)  # 0 + max(2 + 1, 1)
        self.assertEqual(NESTED.asks, 4)
        deep = If(Full("a"), [If(Full("b"), [If(Full("c"), [Pop("a")])], [Pop("a"), Pop("b")])], [Pop("a")] * 3)
        self.assertEqual(Program([deep]).asks, 4)
        self.assertEqual(Program([If(Open("a"), [Pop("a")], [deep, Let("a", "b")])]).asks, 4)

    def test_that_it_is_an_integer(self):
        self.assertIs(type(Program([If(Full("a"), [])]).asks), int)


class NeverChangeTest(unittest.TestCase):
    def test_programs_never_change(self):
        program = Program([A, OUTER, B])
        before = (program.rows, program.names, program.asks, len(program), str(program))
        program.without(1, 3)
        program.replaced(4, B)
        other = program
        other = other + Program([C])
        other = other * 3
        other = 2 * other
        program.is_part_of(other)
        with self.assertRaises(NoRow):
            program.without(0, 20)
        with self.assertRaises(InvalidRow):
            program.replaced(0, None)
        self.assertEqual((program.rows, program.names, program.asks, len(program), str(program)), before)
        self.assertEqual(program, NESTED)
        self.assertEqual(str(OUTER), lines("if same y z", "if full x", "pop b", "else", "clear c", "turn d", "end",
                                           "shift e", "else", "head f a", "end"))

    def test_in_place_signs_make_a_new_program(self):
        program = kept = Program([A])
        program += Program([B])
        self.assertEqual(kept, Program([A]))
        program *= 2
        self.assertEqual(program, Program([A, B, A, B]))
        self.assertEqual(kept, Program([A]))

    def test_methods_stand_in_the_class_itself(self):
        for name in ("__init__", "__len__", "__getitem__", "__add__", "__mul__", "__rmul__", "__eq__", "__str__",
                     "read", "without", "replaced", "is_part_of"):
            self.assertIn(name, vars(Program))
