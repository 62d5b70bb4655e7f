"""Points 14 and 17: the texts of programs."""

import itertools
import unittest

from samelists.errors import InvalidText
from samelists.programs import Program
from samelists.rows import (
    Append, Assign, Clear, Copy, Extend, First, Full, Head, If, Join, Last, Let, New, Open, Pop, Prepend,
    Repeat, Same, Seal, Shift, Swap, Tail, Times, Turn,
)

LINES = [
    ("let x y", Let("x", "y")), ("swap x y", Swap("x", "y")), ("new x y z", New("x", "y", "z")), ("new x", New("x")),
    ("new x y y y y", New("x", "y", "y", "y", "y")), ("seal x", Seal("x")), ("seal x x", Seal("x", "x")),
    ("seal x a b c d", Seal("x", "a", "b", "c", "d")), ("join x y z", Join("x", "y", "z")),
    ("times x y 0", Times("x", "y", 0)), ("times x y 1", Times("x", "y", 1)), ("times x y 2", Times("x", "y", 2)),
    ("times x y 3", Times("x", "y", 3)), ("copy x y", Copy("x", "y")), ("first x y", First("x", "y")),
    ("last x y", Last("x", "y")), ("extend x y", Extend("x", "y")), ("repeat x 0", Repeat("x", 0)),
    ("repeat x 1", Repeat("x", 1)), ("repeat x 2", Repeat("x", 2)), ("repeat x 3", Repeat("x", 3)),
    ("assign x y", Assign("x", "y")), ("append x y", Append("x", "y")), ("prepend x y", Prepend("x", "y")),
    ("clear x", Clear("x")), ("turn x", Turn("x")), ("pop x", Pop("x")), ("shift x", Shift("x")),
    ("head x y", Head("x", "y")), ("tail x y", Tail("x", "y")), ("let abcd wxyz", Let("abcd", "wxyz")),
    ("let let else", Let("let", "else")), ("pop end", Pop("end")), ("pop if", Pop("if")),
]
HEADS = [("if same x y", Same("x", "y")), ("if same x x", Same("x", "x")), ("if open x", Open("x")),
         ("if full x", Full("x")), ("if open open", Open("open")), ("if full same", Full("same"))]
ONE = ["clear", "turn", "pop", "shift"]
TWO = ["let", "swap", "copy", "first", "last", "extend", "assign", "append", "prepend", "head", "tail"]
BAD_NAMES = ["", "A", "aB", "abcde", "a1", "1", "-", "a-b", "_", "a.", "{", "`"]
BAD_COUNTS = ["", "4", "9", "10", "00", "01", "02", "03", "-1", "+1", "a", "x", "1.0", "2 ", "two"]


def wrong_lines():
    yield from ["", " ", "  ", "x", "let", "nothing", "Let x y", "LET x y", "lets x y", "let,x,y", "let\tx y", "1",
                "if", "if ", "if x", "if same", "if open", "if full", "if same x", "if same x y z", "if open x y",
                "if full x y", "if Open x", "if opened x", "if not x", "if  open x", "if open  x", "if open x ",
                " if open x", "if same x y ", "if if open x", "same x y", "open x", "full x", "else x", "else ",
                " else", "Else", "end x", "end ", " end", "End", "end end", "else if open x", "elif open x", "name x",
                "row x", "test x", "frozen x", "x = y", "let x y let x y", "let x y;", "# let x y", "join x y",
                "join x y z a", "join x", "new", "seal", "new x a b c d e", "seal x a b c d e", "new  x", "new x ",
                "new x  y", "seal x y ", "times x y", "times x 2", "times x y 2 2", "times x y z 2", "times 2 x y",
                "repeat x", "repeat 2", "repeat x y", "repeat x 2 2", "repeat x y 2", "repeat 2 x"]
    for word in ONE:
        yield from [word, f"{word} ", f"{word} x y", f"{word}  x", f" {word} x", f"{word} x ", f"{word} x 1"]
        yield from [f"{word} {name}" for name in BAD_NAMES]
    for word in TWO:
        yield from [word, f"{word} x", f"{word} x y z", f"{word} x  y", f"{word}  x y", f" {word} x y", f"{word} x y ",
                    f"{word} x 2"]
        yield from [f"{word} {name} y" for name in BAD_NAMES] + [f"{word} x {name}" for name in BAD_NAMES]
    for name in BAD_NAMES:
        yield from [f"join {name} y z", f"join x {name} z", f"join x y {name}", f"new {name}", f"new x {name}",
                    f"new x y {name}", f"seal {name} x", f"seal x y z a {name}", f"times {name} y 2",
                    f"times x {name} 2", f"repeat {name} 2", f"if same {name} x", f"if same x {name}",
                    f"if open {name}", f"if full {name}"]
    for count in BAD_COUNTS:
        yield from [f"times x y {count}", f"repeat x {count}"]


def line_told(text):
    """The line that is told, or None."""
    try:
        Program.read(text)
    except InvalidText as error:
        return error.at
    return None


def blocks(depth):
    """Some rows, with blocks so deep."""
    if depth == 0:
        return [(), (Let("a", "b"),), (Pop("a"), Seal("b", "a"))]
    inner = blocks(depth - 1)
    made = [If(test, rows, others) for test, rows, others in itertools.product([Same("a", "b"), Full("c")], inner, inner)]
    return [(block,) for block in made[::2]] + [(Turn("c"), block, Clear("d")) for block in made[1::3]]


class GoodTextsTest(unittest.TestCase):
    def test_each_line(self):
        for text, row in LINES:
            with self.subTest(text):
                program = Program.read(text)
                self.assertEqual(program, Program([row]))
                self.assertEqual(str(program), text)
                self.assertEqual(str(row), text)

    def test_all_lines_at_once(self):
        text = "\n".join([line for line, _ in LINES])
        self.assertEqual(Program.read(text), Program([row for _, row in LINES]))
        self.assertEqual(str(Program.read(text=text)), text)

    def test_empty(self):
        self.assertEqual(Program.read(""), Program())
        self.assertEqual(str(Program()), "")

    def test_each_block(self):
        for head, test in HEADS:
            for text, block in [
                (f"{head}\nend", If(test, [])),
                (f"{head}\npop x\nend", If(test, [Pop("x")])),
                (f"{head}\npop x\nelse\nlet x y\nturn y\nend", If(test, [Pop("x")], [Let("x", "y"), Turn("y")])),
                (f"{head}\nelse\nlet x y\nend", If(test, [], [Let("x", "y")])),
            ]:
                self.assertEqual(Program.read(text), Program([block]))
                self.assertEqual(str(Program([block])), text)

    def test_else_without_rows_is_read_but_not_written(self):
        program = Program.read("if open x\nelse\nend")
        self.assertEqual(program, Program([If(Open("x"), [])]))
        self.assertEqual(str(program), "if open x\nend")
        program = Program.read("if open x\npop x\nelse\nend\npop y")
        self.assertEqual(program, Program([If(Open("x"), [Pop("x")]), Pop("y")]))
        self.assertEqual(str(program), "if open x\npop x\nend\npop y")

    def test_blocks_side_by_side_and_within(self):
        text = ("pop a|if open a|pop b|if same a b|pop c|else|if full c|pop d|end|pop e|end|else|if full a|else|"
                "if open b|end|end|pop f|end|if open a|end|pop g").replace("|", "\n")
        program = Program([
            Pop("a"),
            If(Open("a"),
               [Pop("b"), If(Same("a", "b"), [Pop("c")], [If(Full("c"), [Pop("d")]), Pop("e")])],
               [If(Full("a"), [], [If(Open("b"), [])]), Pop("f")]),
            If(Open("a"), []),
            Pop("g"),
        ])
        self.assertEqual(Program.read(text), program)
        self.assertEqual(str(program), text)

    def test_read_and_written_again_three_deep(self):
        for depth in (1, 2):
            for rows in blocks(depth):
                program = Program(rows)
                self.assertEqual(Program.read(str(program)), program)
        inner = blocks(2)
        for at in range(0, len(inner), 5):
            program = Program([If(Open("q"), inner[at], inner[-at]), Pop("a"), If(Same("q", "r"), (), inner[at])])
            text = str(program)
            self.assertEqual(Program.read(text), program)
            self.assertEqual(str(Program.read(text)), text)

    def test_forty_rows(self):
        program = Program([If(Open("a"), [Pop("b")] * 12, [Turn("c")] * 7)] * 2)
        self.assertEqual(len(program), 40)
        self.assertEqual(Program.read(str(program)), program)


class WrongTextsTest(unittest.TestCase):
    def test_wrong_lines_behind_good_ones(self):
        for line in wrong_lines():
            with self.subTest(line):
                # The line "" alone is the text of the empty program.
                self.assertEqual(line_told(line), 0 if line else None)
                self.assertEqual(line_told(f"let x y\n{line}"), 1)
                self.assertEqual(line_told(f"let x y\npop x\n{line}\nlet x y"), 2)
                self.assertEqual(line_told(f"{line}\nlet x y"), 0)

    def test_wrong_lines_in_blocks(self):
        for line in wrong_lines():
            with self.subTest(line):
                self.assertEqual(line_told(f"if open x\n{line}\nend"), 1)
                self.assertEqual(line_told(f"if open x\npop x\nelse\n{line}\nend"), 3)

    def test_the_first_wrong_line_is_told(self):
        self.assertEqual(line_told("let x y\nlet x\nlet y\nend"), 1)
        self.assertEqual(line_told("if open x\nlet x\nif open y"), 1)
        self.assertEqual(line_told("end\nlet x"), 0)
        self.assertEqual(line_told("if open x\nend\nend\nx"), 2)

    def test_empty_lines(self):
        self.assertEqual(line_told("\n"), 0)
        self.assertEqual(line_told("\nlet x y"), 0)
        self.assertEqual(line_told("let x y\n"), 1)
        self.assertEqual(line_told("let x y\n\nlet x y"), 1)
        self.assertEqual(line_told("if open x\nend\n"), 2)
        self.assertEqual(line_told("if open x\n\nend"), 1)

    def test_else_without_if(self):
        self.assertEqual(line_told("else"), 0)
        self.assertEqual(line_told("let x y\nelse\nend"), 1)
        self.assertEqual(line_told("if open x\nend\nelse\nend"), 2)
        self.assertEqual(line_told("if open x\nelse\nend\nelse"), 3)

    def test_else_twice(self):
        self.assertEqual(line_told("if open x\nelse\nelse\nend"), 2)
        self.assertEqual(line_told("if open x\npop x\nelse\npop x\nelse\npop x\nend"), 4)
        self.assertEqual(line_told("if open x\nelse\nif open y\nelse\nend\nelse\nend"), 5)
        self.assertEqual(line_told("if open x\nif open y\nelse\nelse\nend\nend"), 3)
        self.assertIsNone(line_told("if open x\nif open y\nelse\nend\nelse\nend"))
        self.assertIsNone(line_told("if open x\nelse\nif open y\nelse\nend\nend"))

    def test_end_without_if(self):
        self.assertEqual(line_told("end"), 0)
        self.assertEqual(line_told("pop x\nend"), 1)
        self.assertEqual(line_told("if open x\nend\nend"), 2)
        self.assertEqual(line_told("if open x\nif open y\nend\nend\nend"), 4)

    def test_if_without_end(self):
        self.assertEqual(line_told("if open x"), 1)
        self.assertEqual(line_told("if open x\npop x"), 2)
        self.assertEqual(line_told("if open x\nelse"), 2)
        self.assertEqual(line_told("if open x\nif full x\nend"), 3)
        self.assertEqual(line_told("pop x\nif open x\nelse\nif full x\nend\npop y"), 6)
        self.assertEqual(line_told("if open x\nif open x\nif open x"), 3)

    def test_a_text_as_long_as_may_be(self):
        lines = ["let x y"] * 249
        self.assertEqual(len(Program.read("\n".join(lines))), 249)
        self.assertEqual(line_told("\n".join([*lines, "let x"])), 249)
        self.assertEqual(line_told("x" * 2000), 0)
        self.assertEqual(line_told("\n" * 2000), 0)
        self.assertEqual(line_told("\n".join(["if open x"] * 200)), 200)
        self.assertEqual(line_told("if open x" + "\nelse" * 300), 2)
