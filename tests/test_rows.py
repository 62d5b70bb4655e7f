"""Points 13 and 14: rows and tests by themselves."""

import unittest

from samelists import rows
from samelists.errors import InvalidRow
from samelists.programs import Program
from samelists.rows import (
    Append, Asking, Assign, Binding, Change, Clear, Copy, Extend, First, Full, Head, If, Join, Last, Let,
    New, Open, Pop, Prepend, Repeat, Row, Same, Seal, Shift, Swap, Tail, Test, Times, Turn,
)
from samelists.starts import Start

# Of each class: how it is made, its attributes, its names, its text, the classes that it belongs to.
TABLE = [
    (Let, ("x", "y"), {"name": "x", "other": "y"}, ("x", "y"), "let x y", (Row, Binding)),
    (Swap, ("y", "x"), {"name": "y", "other": "x"}, ("x", "y"), "swap y x", (Row, Binding)),
    (New, ("x", "z", "y"), {"name": "x", "parts": ("z", "y")}, ("x", "y", "z"), "new x z y", (Row, Binding)),
    (Seal, ("x", "y"), {"name": "x", "parts": ("y",)}, ("x", "y"), "seal x y", (Row, Binding)),
    (Join, ("x", "z", "y"), {"name": "x", "one": "z", "other": "y"}, ("x", "y", "z"), "join x z y",
     (Row, Binding)),
    (Times, ("x", "y", 2), {"name": "x", "other": "y", "count": 2}, ("x", "y"), "times x y 2", (Row, Binding)),
    (Copy, ("x", "y"), {"name": "x", "other": "y"}, ("x", "y"), "copy x y", (Row, Binding)),
    (First, ("x", "y"), {"name": "x", "other": "y"}, ("x", "y"), "first x y", (Row, Binding, Asking)),
    (Last, ("x", "y"), {"name": "x", "other": "y"}, ("x", "y"), "last x y", (Row, Binding, Asking)),
    (Extend, ("x", "y"), {"name": "x", "other": "y"}, ("x", "y"), "extend x y", (Row, Change)),
    (Repeat, ("x", 3), {"name": "x", "count": 3}, ("x",), "repeat x 3", (Row, Change)),
    (Assign, ("x", "y"), {"name": "x", "other": "y"}, ("x", "y"), "assign x y", (Row, Change)),
    (Append, ("x", "y"), {"name": "x", "other": "y"}, ("x", "y"), "append x y", (Row, Change)),
    (Prepend, ("x", "y"), {"name": "x", "other": "y"}, ("x", "y"), "prepend x y", (Row, Change)),
    (Clear, ("x",), {"name": "x"}, ("x",), "clear x", (Row, Change)),
    (Turn, ("x",), {"name": "x"}, ("x",), "turn x", (Row, Change)),
    (Pop, ("x",), {"name": "x"}, ("x",), "pop x", (Row, Change, Asking)),
    (Shift, ("x",), {"name": "x"}, ("x",), "shift x", (Row, Change, Asking)),
    (Head, ("x", "y"), {"name": "x", "other": "y"}, ("x", "y"), "head x y", (Row, Change, Asking)),
    (Tail, ("x", "y"), {"name": "x", "other": "y"}, ("x", "y"), "tail x y", (Row, Change, Asking)),
    (Same, ("y", "x"), {"one": "y", "other": "x"}, ("x", "y"), None, (Test,)),
    (Open, ("x",), {"name": "x"}, ("x",), None, (Test,)),
    (Full, ("x",), {"name": "x"}, ("x",), None, (Test,)),
]
KINDS = (Row, Binding, Change, Asking, Test)
NO_NAMES = ["", "abcde", "A", "aB", "a1", "1", "a b", " a", "a ", "a\n", "a-b", "_", "`", "{", 0, 1, True, False, None,
            [], ["a"], ("a",), [[["a"]]], b"a", {"a": 1}, Let("a", "b"), Open("a"), Program(), Start({"a": 0}, [[]])]
NO_COUNTS = [-1, 4, 100, True, False, None, "1", "", [], [1], (1,), Let("a", "b"), Program()]
NO_ROWS = [None, True, 0, 1, "", "let a b", "a", {"a": 1}, Let("a", "b"), Open("a"), Program([Let("a", "b")]),
           Start({"a": 0}, [[]]), [Let("a", "b"), None], [None], ["let a b"], [[Let("a", "b")]], [[]],
           (Open("a"),), (Let("a", "b"), Program()), [Program()], [True], [0]]
NO_TESTS = [None, True, False, 0, "", "same a b", "open a", [], (), [Open("a")], (Open("a"),), Let("a", "b"),
            If(Open("a"), []), Program(), Start({"a": 0}, [[]])]
BLOCK = If(Same("b", "a"), [Let("c", "d")], [If(Open("e"), (), [Pop("f")])])


def word_of(maker, *args, **more):
    """The word of the error that is raised, or None."""
    try:
        maker(*args, **more)
    except InvalidRow as error:
        return error.word
    return None


class AttributesTest(unittest.TestCase):
    def test_attributes(self):
        for maker, args, attributes, _, _, _ in TABLE:
            with self.subTest(maker.__name__):
                made = maker(*args)
                for name, value in attributes.items():
                    self.assertEqual(getattr(made, name), value)
                    self.assertIs(type(getattr(made, name)), type(value))

    def test_arguments_by_name(self):
        for maker, args, attributes, names, text, _ in TABLE:
            if "parts" not in attributes:
                with self.subTest(maker.__name__):
                    made = maker(**attributes)
                    self.assertEqual(made, maker(*args))
                    self.assertEqual(made.names, names)

    def test_names(self):
        for maker, args, _, names, _, _ in TABLE:
            with self.subTest(maker.__name__):
                self.assertEqual(maker(*args).names, names)

    def test_names_each_once(self):
        self.assertEqual(Let("b", "b").names, ("b",))
        self.assertEqual(Join("b", "a", "b").names, ("a", "b"))
        self.assertEqual(New("c", "c", "a", "c", "bb").names, ("a", "bb", "c"))
        self.assertEqual(Seal("c").names, ("c",))
        self.assertEqual(Same("z", "z").names, ("z",))
        self.assertEqual(Swap("ab", "aab").names, ("aab", "ab"))

    def test_classes(self):
        for maker, args, _, _, _, kinds in TABLE:
            with self.subTest(maker.__name__):
                made = maker(*args)
                self.assertEqual(tuple(kind for kind in KINDS if isinstance(made, kind)), kinds)

    def test_no_row_is_of_the_class_of_another_one(self):
        for maker, args, _, _, _, _ in TABLE:
            made = maker(*args)
            found = [other for other, _, _, _, _, _ in TABLE if isinstance(made, other)]
            self.assertEqual(found, [maker])
            self.assertNotIsInstance(made, If)

    def test_methods_stand_in_the_class_itself(self):
        for maker, _, _, _, text, _ in TABLE:
            self.assertIn("__eq__", vars(maker))
            self.assertIn("__init__", vars(maker))
            self.assertTrue(text is None or "__str__" in vars(maker))
            self.assertEqual(maker.__module__, "samelists.rows")
        for kind in (*KINDS, If):
            self.assertEqual(kind.__module__, "samelists.rows")

    def test_longest_names_and_all_letters(self):
        self.assertEqual(Let("abcd", "wxyz").names, ("abcd", "wxyz"))
        for letter in "abcdefghijklmnopqrstuvwxyz":
            self.assertEqual(Clear(letter).name, letter)

    def test_parts(self):
        for maker in (New, Seal):
            self.assertEqual(maker("a").parts, ())
            self.assertEqual(maker("a", "b", "b", "a", "c").parts, ("b", "b", "a", "c"))

    def test_all_counts(self):
        for count in range(4):
            self.assertEqual(Times("a", "b", count).count, count)
            self.assertEqual(Repeat("a", count).count, count)


class BlockTest(unittest.TestCase):
    def test_attributes(self):
        test = Full("a")
        block = If(test, [Let("b", "c")], (Pop("d"), Clear("a")))
        self.assertEqual(block.test, test)
        self.assertEqual(block.rows, (Let("b", "c"),))
        self.assertEqual(block.others, (Pop("d"), Clear("a")))
        self.assertIs(type(block.rows), tuple)
        self.assertIs(type(If(test, (), []).others), tuple)

    def test_no_others(self):
        self.assertEqual(If(Open("a"), []).others, ())
        self.assertEqual(If(Open("a"), []).rows, ())

    def test_arguments_by_name(self):
        block = If(others=[Pop("a")], rows=[Turn("b")], test=Open("c"))
        self.assertEqual(block, If(Open("c"), [Turn("b")], [Pop("a")]))

    def test_classes(self):
        for block in (BLOCK, If(Full("a"), [Pop("a")])):
            self.assertEqual([kind for kind in KINDS if isinstance(block, kind)], [Row])

    def test_names(self):
        self.assertEqual(BLOCK.names, ("a", "b", "c", "d", "e", "f"))
        self.assertEqual(If(Open("b"), [], [Let("a", "b")]).names, ("a", "b"))
        self.assertEqual(If(Open("z"), []).names, ("z",))
        inner = If(Full("m"), [If(Open("b"), [New("z", "aa")])])
        self.assertEqual(If(Same("y", "y"), [inner], [Pop("m")]).names, ("aa", "b", "m", "y", "z"))

    def test_what_is_passed_may_be_changed(self):
        inside, others = [Let("a", "b")], [Pop("c")]
        block = If(Open("a"), inside, others)
        inside.append(Clear("z"))
        others.clear()
        self.assertEqual(block, If(Open("a"), [Let("a", "b")], [Pop("c")]))
        self.assertEqual(block.names, ("a", "b", "c"))
        self.assertEqual(inside, [Let("a", "b"), Clear("z")])


class EqualityTest(unittest.TestCase):
    def test_equal_to_the_same_again(self):
        for maker, args, _, _, _, _ in TABLE:
            with self.subTest(maker.__name__):
                self.assertTrue(maker(*args) == maker(*args))
                self.assertFalse(maker(*args) != maker(*args))
                self.assertIs(maker(*args) == maker(*args), True)

    def test_unequal_to_other_classes(self):
        for maker, args, _, _, _, _ in TABLE:
            for other, others, _, _, _, _ in TABLE:
                if other is not maker:
                    self.assertIs(maker(*args) == other(*others), False)
                    self.assertIs(maker(*args) != other(*others), True)

    def test_each_argument_counts(self):
        for maker, args, attributes, _, _, _ in TABLE:
            for at, value in enumerate(args):
                changed = (value + 1) % 4 if isinstance(value, int) else "q"
                other = maker(*args[:at], changed, *args[at + 1:])
                with self.subTest(maker.__name__, at=at):
                    self.assertIs(maker(*args) == other, False)
                    self.assertIs(other == maker(*args), False)

    def test_order_and_number_of_parts_count(self):
        for maker in (New, Seal):
            self.assertNotEqual(maker("a", "b", "c"), maker("a", "c", "b"))
            self.assertNotEqual(maker("a", "b"), maker("a", "b", "b"))
            self.assertNotEqual(maker("a"), maker("a", "a"))
        self.assertNotEqual(Let("a", "b"), Let("b", "a"))
        self.assertNotEqual(Same("a", "b"), Same("b", "a"))

    def test_blocks(self):
        again = If(Same("b", "a"), (Let("c", "d"),), (If(Open("e"), [], (Pop("f"),)),))
        self.assertIs(BLOCK == again, True)
        self.assertIs(BLOCK != again, False)
        for other in (
            If(Same("a", "b"), again.rows, again.others),
            If(Open("a"), again.rows, again.others),
            If(again.test, again.others, again.rows),
            If(again.test, again.rows),
            If(again.test, again.rows + again.rows, again.others),
            If(again.test, again.rows, [If(Open("e"), [], [Pop("g")])]),
            If(again.test, again.rows, [If(Open("e"), [Pop("f")], [])]),
            If(again.test, again.rows, [If(Full("e"), [], [Pop("f")])]),
        ):
            self.assertIs(BLOCK == other, False)
            self.assertIs(other == BLOCK, False)

    def test_unequal_to_what_is_no_row(self):
        made = [maker(*args) for maker, args, _, _, _, _ in TABLE] + [BLOCK]
        for row in made:
            for value in (None, True, 0, "", str(row), "x", [], [row], (row,), Program([row]) if isinstance(row, Row)
                          else Program(), Start({"x": 0}, [[]]), object()):
                self.assertIs(row == value, False)
                self.assertIs(row != value, True)

    def test_unequal_to_what_is_equal_to_all(self):
        class Yes:
            def __eq__(self, other):
                return True

        for row in [maker(*args) for maker, args, _, _, _, _ in TABLE] + [BLOCK]:
            self.assertIs(row == Yes(), False)


class TextTest(unittest.TestCase):
    def test_texts(self):
        for maker, args, _, _, text, _ in TABLE:
            if text is not None:
                self.assertEqual(str(maker(*args)), text)

    def test_texts_of_parts(self):
        self.assertEqual(str(New("ab")), "new ab")
        self.assertEqual(str(Seal("ab")), "seal ab")
        self.assertEqual(str(New("a", "b", "c", "d", "a")), "new a b c d a")
        self.assertEqual(str(Times("a", "a", 0)), "times a a 0")

    def test_blocks(self):
        self.assertEqual(str(If(Same("x", "y"), [])), "if same x y\nend")
        self.assertEqual(str(If(Open("x"), [Pop("x")])), "if open x\npop x\nend")
        self.assertEqual(str(If(Full("x"), [Pop("x"), Turn("x")], [Clear("y")])),
                         "if full x\npop x\nturn x\nelse\nclear y\nend")
        self.assertEqual(str(If(Full("x"), [], [Clear("y")])), "if full x\nelse\nclear y\nend")

    def test_blocks_within_blocks(self):
        self.assertEqual(str(BLOCK), "if same b a\nlet c d\nelse\nif open e\nelse\npop f\nend\nend")


class WrongArgumentsTest(unittest.TestCase):
    def test_each_name(self):
        for maker, args, _, _, _, _ in TABLE:
            for at, value in enumerate(args):
                if isinstance(value, str):
                    for wrong in NO_NAMES:
                        with self.subTest(maker.__name__, at=at, wrong=wrong):
                            self.assertEqual(word_of(maker, *args[:at], wrong, *args[at + 1:]), "name")

    def test_each_part(self):
        for maker in (New, Seal):
            for at in range(4):
                parts = ["a", "b", "c", "d"]
                for wrong in NO_NAMES:
                    parts[at] = wrong
                    self.assertEqual(word_of(maker, "x", *parts), "name")

    def test_too_many_parts(self):
        for maker in (New, Seal):
            self.assertIsNone(word_of(maker, "x", "a", "b", "c", "d"))
            self.assertEqual(word_of(maker, "x", "a", "b", "c", "d", "e"), "parts")
            self.assertEqual(word_of(maker, "x", *["a"] * 20), "parts")

    def test_names_come_ahead_of_parts(self):
        for maker in (New, Seal):
            self.assertEqual(word_of(maker, "X", "a", "b", "c", "d", "e"), "name")
            self.assertEqual(word_of(maker, "x", "a", "b", "c", "d", 5), "name")
            self.assertEqual(word_of(maker, "x", "a", "b", "c", "d", "e", "F"), "name")

    def test_counts(self):
        for wrong in NO_COUNTS:
            with self.subTest(wrong=wrong):
                self.assertEqual(word_of(Times, "x", "y", wrong), "count")
                self.assertEqual(word_of(Repeat, "x", wrong), "count")

    def test_names_come_ahead_of_counts(self):
        self.assertEqual(word_of(Times, "X", "y", 4), "name")
        self.assertEqual(word_of(Times, "x", "Y", True), "name")
        self.assertEqual(word_of(Repeat, None, None), "name")

    def test_tests(self):
        for wrong in NO_TESTS:
            with self.subTest(wrong=wrong):
                self.assertEqual(word_of(If, wrong, []), "test")

    def test_rows_of_blocks(self):
        for wrong in NO_ROWS:
            with self.subTest(wrong=wrong):
                self.assertEqual(word_of(If, Open("a"), wrong), "row")
                self.assertEqual(word_of(If, Open("a"), [], wrong), "row")
                self.assertEqual(word_of(If, Open("a"), wrong, [Let("a", "b")]), "row")
                self.assertEqual(word_of(If, Open("a"), wrong, wrong), "row")

    def test_tests_come_ahead_of_rows(self):
        for wrong in NO_ROWS:
            self.assertEqual(word_of(If, "same a b", wrong, wrong), "test")
            self.assertEqual(word_of(If, Pop("a"), [], wrong), "test")

    def test_module_lists_all_classes(self):
        for name in ("Row Binding Change Asking Test Let Swap New Seal Join Times Copy First Last Extend Repeat Assign "
                     "Append Prepend Clear Turn Pop Shift Head Tail If Same Open Full").split():
            self.assertTrue(isinstance(getattr(rows, name), type))
