"""Points 2, 39 and 40: desks, their commands, and what is no command."""

import random
import unittest

import model
from samelists.alike import least_start
from samelists.desk import Desk
from samelists.errors import Guarded, InvalidCommand, InvalidText, NoName, SameError, Stops
from samelists.houses import House
from samelists.programs import Program
from samelists.runs import run
from samelists.starts import Start

THREE = "a 0 ; b 1 ; c 0 ; opened 1 ; opened 2 ; frozen"
ONE_LIST = "a 0 ; b 0 ; opened"


def desk_after(*commands):
    """A desk to which these commands were said."""
    desk = Desk()
    for command in commands:
        desk.say(command)
    return desk


def told(desk):
    """What a desk tells by commands that change nothing."""
    found = [len(desk)]
    for command in ("show", "against let zz zz", "run let a a", "run let b b", "run let c c"):
        try:
            found.append(desk.say(command))
        except SameError as error:
            found.append(repr(error))
    return found


class DeskTest(unittest.TestCase):
    def check(self, desk, *lines):
        """Says commands, each with the result behind it."""
        for command, wanted in lines:
            with self.subTest(command):
                found = desk.say(command)
                self.assertEqual(found, wanted)
                self.assertIs(type(found), str)

    def check_refused(self, desk, command, error, *arguments):
        """The command is refused, and nothing is changed by this."""
        before = told(desk)
        with self.subTest(command), self.assertRaises(error) as caught:
            desk.say(command)
        self.assertIs(type(caught.exception), error)
        self.assertEqual(list(vars(caught.exception).values()), list(arguments))
        self.assertEqual(told(desk), before)


class CommandsTest(DeskTest):
    def test_a_house(self):
        desk = Desk()
        self.assertEqual(len(desk), 0)
        self.check(
            desk, (f"start {THREE}", "3 lists, 2 items"), ("show", THREE), ("undo", "nothing"),
            ("do append a b", "done"), ("show", "a 0 ; b 1 ; c 0 ; opened 1 1 ; opened 2 ; frozen"),
            ("do if open a ; append a a ; else ; clear a ; end ; let b c", "done"),
            ("show", "a 0 ; b 0 ; c 0 ; opened 1 1 0 ; opened 2 ; frozen"))
        self.assertEqual(len(desk), 3)
        self.check(
            desk, ("undo", "undone"), ("show", "a 0 ; b 1 ; c 0 ; opened 1 1 0 ; opened 2 ; frozen"),
            ("undo", "undone"),
            ("undo", "undone"), ("undo", "nothing"), ("undo", "nothing"), ("show", THREE))
        self.assertEqual(len(desk), 0)

    def test_starts(self):
        desk = Desk()
        self.check(
            desk, ("start a 0 ; opened", "1 lists, 0 items"), ("show", "a 0 ; opened"),
            ("start b 1 ; zz 0 ; frozen ; opened 0 1", "2 lists, 2 items"),
            ("show", "b 0 ; zz 1 ; opened 1 0 ; frozen"),
            # A list that cannot be come to is left out.
            ("start a 1 ; frozen 0 0 ; opened 1", "1 lists, 1 items"), ("show", "a 0 ; opened 0"),
            ("start a 0 ; b 1 ; c 2 ; d 3 ; opened ; opened 0 ; frozen 1 1 ; opened 3 2 1 0", "4 lists, 7 items"))
        self.assertEqual(desk.say(command="show"),
                         "a 0 ; b 1 ; c 2 ; d 3 ; opened ; opened 0 ; frozen 1 1 ; opened 3 2 1 0")

    def test_a_new_house(self):
        desk = desk_after(f"start {THREE}", "guard a", "do append a a ; append a b")
        self.assertEqual(len(desk), 2)
        self.check(desk, (f"start {ONE_LIST}", "1 lists, 0 items"), ("show", ONE_LIST))
        self.assertEqual(len(desk), 0)
        # Nothing is guarded, or can be taken back.
        self.check(desk, ("undo", "nothing"), ("do append b a", "done"), ("guard b", "b"))

    def test_do(self):
        desk = desk_after(f"start {ONE_LIST}")
        self.check(desk, ("do append a b", "done"),
                   ("do swap a b ; append b a ; if full a ; pop a ; end ; new a", "done"))
        self.assertEqual(len(desk), 5)
        self.check(desk, ("show", "a 0 ; b 1 ; opened ; opened 1"), ("undo", "undone"),
                   ("show", "a 0 ; b 0 ; opened 0"))
        self.assertEqual(len(desk), 4)
        # The block is one change; behind it that of the row ahead of it.
        self.check(desk, ("undo", "undone"), ("show", "a 0 ; b 0 ; opened 0 0"), ("undo", "undone"),
                   ("show", "a 0 ; b 0 ; opened 0"))

    def test_do_all_or_none(self):
        desk = desk_after(f"start {ONE_LIST}", "do append a b", "guard b")
        for text, error, *arguments in [
            ("do let a b ; seal a ; clear a", Stops, 0), ("do let a b ; let c b", NoName, "c"),
            ("do new a ; if open a ; append a a ; append a a ; pop a ; pop a ; pop a ; end", Stops, 0),
            ("do let a b ; append a a", Guarded, "b"), ("do append b b ; append a a ; let c c", Guarded, "b"),
            ("do let c c ; append a a", NoName, "c"), ("do let a b ; lets a b", InvalidText, 1),
            ("do append a a ; pop c ; pops", InvalidText, 2),
        ]:
            self.check_refused(desk, text, error, *arguments)
        self.assertEqual(len(desk), 1)
        self.check(desk, ("do append b b ; new a", "done"), ("show", "a 0 ; b 1 ; opened ; opened 1 1"))

    def test_guards(self):
        desk = desk_after(f"start {THREE}")
        self.check(
            desk, ("release b", "none"), ("guard b", "b"), ("guard b", "b"), ("guard c", "b c"), ("guard a", "a b c"),
            ("release b", "a c"), ("release b", "a c"), ("do append b b", "done"))
        self.check_refused(desk, "do append a a", Guarded, "c")
        self.check_refused(desk, "do append c a", Guarded, "a")
        self.check(desk, ("release c", "a"), ("do append a a", "done"), ("undo", "undone"), ("guard c", "a c"),
                   ("release a", "c"), ("release c", "none"), ("do append a a", "done"))
        self.assertEqual(len(desk), 2)
        self.check_refused(desk, "guard d", NoName, "d")
        self.check_refused(desk, "release zzzz", NoName, "zzzz")

    def test_run(self):
        desk = desk_after(f"start {THREE}", "do append a b", "guard a")
        self.check(
            desk, ("run clear a", "ends"), ("run pop a ; pop a", "ends"), ("run pop a ; pop a ; pop a", "stops 2"),
            ("run let a a ; if full b ; first b b ; clear b ; end", "stops 3"), ("run turn a", "ends"),
            ("run clear b", "ends"),
            ("run first c b ; append c c", "stops 1"), ("show", "a 0 ; b 1 ; c 0 ; opened 1 1 ; opened 2 ; frozen"))
        self.assertEqual(len(desk), 1)
        # A run is no row of the house: guards are not looked at.
        self.check(desk, ("run append c c", "ends"))
        self.check_refused(desk, "run let a d", NoName, "d")
        self.check_refused(desk, "run pop e ; let d d", NoName, "d")
        self.check_refused(desk, "run append a", InvalidText, 0)

    def test_keep_and_against(self):
        desk = Desk()
        self.check(
            desk, ("keep if open a ; extend a b ; else ; join a a b ; end", "kept 3"), ("against extend a b", "alike"),
            ("against join a a b", ONE_LIST), ("against let a a", "a 0 ; b 0 ; frozen"),
            ("against join a a b", ONE_LIST),
            ("keep turn a", "kept 1"), ("against append a a ; pop a", "a 0 ; opened 0 1 ; opened"),
            ("against let a a ; turn a", "alike"),
            ("against turn b", "a 0 ; b 1 ; opened ; frozen"), ("keep pop a ; pop b", "kept 2"),
            ("against pop b ; pop a", "a 0 ; b 1 ; opened ; opened 0"))
        self.assertEqual(len(desk), 0)

    def test_a_program_stays_kept(self):
        desk = desk_after("keep extend a b")
        self.check(
            desk, (f"start {ONE_LIST}", "1 lists, 0 items"), ("against join a a b", ONE_LIST),
            ("do append a a", "done"),
            ("run clear a", "ends"), ("undo", "undone"), (f"start {THREE}", "3 lists, 2 items"),
            ("against extend a b", "alike"),
            ("against join a a b", ONE_LIST), ("seen a", "a"), ("against join a a b", "alike"))
        self.check_refused(desk, "keep extend a", InvalidText, 0)
        self.check_refused(desk, "keep let a b ; extend a", InvalidText, 1)
        self.check_refused(desk, "against let a b ; ; let a b", InvalidText, 1)
        self.check(desk, ("against join a a b", "alike"), ("against let a b", "a 0 ; b 0 ; opened 0"),
                   ("keep let b a", "kept 1"),
                   ("against join a a b", "a 0 ; b 0 ; opened 0"))

    def test_seen(self):
        desk = desk_after("keep extend a b")
        self.check(
            desk, ("against join a a b", ONE_LIST), ("seen a", "a"), ("against join a a b", "alike"),
            ("seen b a b", "a b"), ("against join a a b", "a 0 ; b 0 ; opened 0"), ("seen b", "b"),
            ("against join a a b", "a 0 ; b 0 ; opened 0"),
            ("seen c a", "a c"), ("against join a a b", "a 0 ; b 0 ; c 0 ; opened 0"),
            ("keep let a b", "kept 1"), ("against copy a b", "alike"), ("seen", "all"), ("against copy a b", ONE_LIST),
            ("seen zz zz zz", "zz"), ("against copy a b", "alike"), ("seen", "all"), ("against copy a b", ONE_LIST))

    def test_seen_ahead_of_all_others(self):
        desk = Desk()
        self.check(desk, ("seen", "all"), ("seen d c b a", "a b c d"), ("seen b a", "a b"), ("keep let a b", "kept 1"),
                   ("against copy a b", "alike"), (f"start {ONE_LIST}", "1 lists, 0 items"),
                   ("against copy a b", "alike"))

    def test_words_as_names(self):
        desk = Desk()
        self.check(desk, ("start do 0 ; undo 1 ; opened ; opened", "2 lists, 0 items"), ("guard undo", "undo"),
                   ("guard do", "do undo"),
                   ("do append do do ; let do undo", "done"), ("show", "do 0 ; undo 0 ; opened"), ("seen all", "all"),
                   ("keep let run show", "kept 1"), ("against copy run show", "alike"), ("seen", "all"),
                   ("against copy run show", "run 0 ; show 0 ; opened"))

    def test_two_desks(self):
        one, other = desk_after(f"start {ONE_LIST}", "keep extend a b"), Desk()
        self.check_refused(other, "show", InvalidCommand)
        self.check_refused(other, "against let a b", InvalidCommand)
        self.check(one, ("show", ONE_LIST), ("seen a", "a"))
        self.check(other, ("keep extend a b", "kept 1"), ("against join a a b", ONE_LIST))


# Values that are no commands, whatever was said ahead of them.
NO_COMMANDS = [
    None, True, 0, 1, [], ["show"], ("show",), (), {}, b"show", ["s", "h"], 10 ** 30,
    # Newlines and empty words.
    "", " ", "  ", "\n", "show\n", "\nshow", "show ", " show", "start  a 0 ; opened", "start a 0 ;  opened",
    "start a 0\nopened", "do let a b\nlet b a", "do let a b ;\n let b a", "start ", "do ", "seen ", " seen", "guard ",
    "release ", "undo ", "seen a  b",
    # A wrong number of words.
    "start", "do", "run", "keep", "against", "guard", "release", "undo 1", "undo undo", "show a", "show ;", "guard a b",
    "release a b", "guard a a", "guard a ;", "show ; undo",
    # No names.
    "guard ;", "guard A", "guard a1", "guard abcde", "release 1", "release a_b", "seen A", "seen a B", "seen a abcde",
    "seen a ; b", "seen 1", "seen a,b",
    # Unknown first words.
    "Show", "shows", "sho", "x", ";", "; show", "let a b", "opened", "all", "none", "start;", "keepx let a b",
]
NEED_A_HOUSE = [
    "do let a b", "do lets", "do ;", "undo", "show", "guard a", "release a", "run let a b", "run lets", "run pop zz",
]


class NoCommandTest(DeskTest):
    def test_no_commands(self):
        for desk in (Desk(), desk_after(f"start {THREE}"), desk_after("keep let a b"),
                     desk_after(f"start {THREE}", "keep let a b", "guard a")):
            for value in NO_COMMANDS:
                self.check_refused(desk, value, InvalidCommand)

    def test_nested_values(self):
        value = "show"
        for _ in range(8):
            value = [value]
        self.check_refused(desk_after(f"start {THREE}"), value, InvalidCommand)
        self.check_refused(desk_after(f"start {THREE}"), tuple(value), InvalidCommand)

    def test_without_a_house(self):
        for desk in (Desk(), desk_after("keep let a b", "seen a")):
            for command in NEED_A_HOUSE:
                self.check_refused(desk, command, InvalidCommand)
        desk = Desk()
        self.check_refused(desk, "start a 0", InvalidText, 0)
        self.check_refused(desk, "show", InvalidCommand)
        self.check(desk, (f"start {ONE_LIST}", "1 lists, 0 items"), ("show", ONE_LIST))

    def test_without_a_kept_program(self):
        for desk in (Desk(), desk_after(f"start {THREE}"), desk_after("seen a")):
            for command in ("against let a b", "against lets", "against ;"):
                self.check_refused(desk, command, InvalidCommand)
        desk = Desk()
        self.check_refused(desk, "keep lets", InvalidText, 0)
        self.check_refused(desk, "against let a b", InvalidCommand)
        self.check(desk, ("keep let a b", "kept 1"), ("against let a b", "alike"))

    def test_wrong_texts(self):
        desk = desk_after(f"start {THREE}", "keep let a b", "guard b")
        for text, at in [
            ("x", 0), (";", 0), ("let a", 0), ("let a b ; x", 1), ("let a b ; ; let a b", 1), ("; let a b", 0),
            ("let a b ; ; ; let a b", 1),
            # Without a blank behind it, the last `;` is a word of its line.
            ("let a b ;", 0), ("let a b ; let b a ;", 1), (";;", 0), ("let a b; let b a", 0), ("let a b ;let b a", 0),
            ("if open a ; let a b", 2), ("let a b ; end", 1), ("let a b ; else ; end", 1), ("times a b 4", 0),
            ("let a b ; new a b b b b b ; x", 1), ("let A b", 0),
        ]:
            for word in ("do", "run", "keep", "against"):
                self.check_refused(desk, f"{word} {text}", InvalidText, at)
        for text, at in [
            ("x", 0), (";", 0), ("a 0", 0), ("opened", 0), ("a 0 ; opened 1", 1), ("a 1 ; opened", 0),
            ("a 0 ; ; opened", 1), ("a 0 ; opened ;", 1),
            ("a 0 ; a 0 ; opened", 1), ("a 0 ; opened ; b 0", 2), ("a 0 ; b 0 ; c 0 ; d 0 ; e 0 ; opened", 4),
            ("a 00 ; opened", 0),
        ]:
            self.check_refused(desk, f"start {text}", InvalidText, at)
        self.check(desk, ("show", THREE), ("against let a b", "alike"), ("guard a", "a b"))

    def test_which_error_is_told(self):
        desk = desk_after(f"start {ONE_LIST}", "guard b")
        # What is no command, then what is no text, then the errors of rows, one row after the other.
        for command, error, *arguments in [
            ("do  append a a", InvalidCommand), ("do append a a\n", InvalidCommand), ("against x", InvalidCommand),
            ("do append a a ; let c c ; x", InvalidText, 2), ("do append a a ; let c c", Guarded, "b"),
            ("do let c c ; append a a", NoName, "c"),
            ("do seal a ; pop a ; let c c", Stops, 0), ("run pop a ; let c c", NoName, "c"),
            ("run let c c ; x", InvalidText, 1),
            ("guard zz", NoName, "zz"), ("guard zz zz", InvalidCommand), ("guard Z", InvalidCommand),
        ]:
            self.check_refused(desk, command, error, *arguments)


def in_one_line(text):
    return text.replace("\n", " ; ")


class RandomTest(DeskTest):
    def result(self, state, word, made, name):
        """What a command tells, by the other modules: its text, or the class of its error and the argument."""
        house = state["house"]
        try:
            if word == "do":
                for row in made.rows:
                    house.do(row)
                return "done"
            if word == "undo":
                return "undone" if house.undo() else "nothing"
            if word == "show":
                return in_one_line(str(house.start()))
            if word in ("guard", "release"):
                house.guard(name) if word == "guard" else house.release(name)
                return " ".join(house.guarded) or "none"
            if word == "run":
                outcome = run(made, house.start())
                return "ends" if outcome.at is None else f"stops {outcome.at}"
            if word == "keep":
                state["kept"] = made
                return f"kept {len(made)}"
            least = least_start(state["kept"], made, seen=state["seen"])
            return "alike" if least is None else in_one_line(str(least))
        except SameError as error:
            return type(error), *vars(error).values()

    def step(self, some, desk, state):
        """Says some command, and does the same by the other modules."""
        word = some.choice(["do", "do", "do", "undo", "undo", "show", "guard", "release", "run", "keep", "against",
                            "seen", "start"])
        made = model.some_program(some, "ab", 3, 0 if word in ("keep", "against") else 3, 1)
        if len(made) == 0 or word == "do" and len(state["house"].start()) > 60:
            return word
        text = in_one_line(str(made))
        name = some.choice("abbbc")
        if word == "start":
            start = some.choice(model.few_starts(("a", "b"), 2))
            state["house"] = House(start)
            self.check(desk, (f"start {in_one_line(str(start))}", f"{len(start.lists)} lists, {len(start)} items"))
        elif word == "seen":
            state["seen"] = some.choice([None, ["b"], ["a", "b"], ["c"]])
            names = state["seen"] or []
            self.check(desk, (" ".join(["seen", *names]), " ".join(names) or "all"))
        else:
            start, done = state["house"].start(), len(state["house"])
            wanted = self.result(state, word, made, name)
            command = word if word in ("undo", "show") else f"{word} {name if word in ('guard', 'release') else text}"
            if type(wanted) is str:
                self.check(desk, (command, wanted))
            else:
                self.check_refused(desk, command, *wanted)
                # Of the rows ahead of the one that could not be done, none is done.
                while len(state["house"]) > done:
                    state["house"].undo()
                self.assertEqual(state["house"].start(), start)
        return word

    def test_random_commands(self):
        some = random.Random(39)
        for _ in range(25):
            desk = desk_after(f"start {ONE_LIST}", "keep let a b")
            house = House(Start.read(ONE_LIST.replace(" ; ", "\n")))
            state = {"house": house, "kept": Program.read("let a b"), "seen": None}
            for _ in range(40):
                self.step(some, desk, state)
                self.assertEqual(len(desk), len(state["house"]))
                self.assertEqual(desk.say("show"), in_one_line(str(state["house"].start())))
