"""Desks: houses, runs and comparisons by commands, which are texts of one line."""

from samelists.alike import least_start
from samelists.checks import ascending, is_name
from samelists.errors import InvalidCommand
from samelists.houses import House
from samelists.programs import Program
from samelists.runs import run
from samelists.starts import Start

TEXT_WORDS = ("start", "do", "run", "keep", "against")
NAME_WORDS = ("guard", "release")
LONE_WORDS = ("undo", "show")
HOUSELESS_WORDS = ("start", "keep", "against", "seen")


def words_of(command):
    """The words of any value that is the text of a command, whatever they are."""
    if not isinstance(command, str) or "\n" in command:
        raise InvalidCommand()
    words = command.split(" ")
    if "" in words:
        raise InvalidCommand()
    return words


def has_form(word, args):
    """Whether some command begins with this word and goes on with such words."""
    if word in TEXT_WORDS:
        return len(args) > 0
    if word in NAME_WORDS:
        return len(args) == 1 and is_name(args[0])
    if word in LONE_WORDS:
        return len(args) == 0
    return word == "seen" and all([is_name(arg) for arg in args])


def text_of(args):
    """The text, of one line or more, that the words of a command stand for."""
    return " ".join(args).replace(" ; ", "\n")


def in_one_line(start):
    """The text of a start in one line."""
    return str(start).replace("\n", " ; ")


class Desk:
    """Does commands, on a house and with a program that is kept."""

    def __init__(self):
        self._house = None
        self._kept = None
        self._by = None

    def say(self, command):
        """Does a command; returns the text of its result."""
        words = words_of(command)
        self.check(words[0], words[1:])
        return self.result(words[0], words[1:])

    def check(self, word, args):
        """Tells of words that are no command, or none that can be done now."""
        if not has_form(word, args):
            raise InvalidCommand()
        if self._house is None and word not in HOUSELESS_WORDS:
            raise InvalidCommand()
        if self._kept is None and word == "against":
            raise InvalidCommand()

    def result(self, word, args):
        """The result of a command that can be done."""
        match word:
            case "start":
                return self.begin(text_of(args))
            case "do":
                return self.do_all(text_of(args))
            case "undo":
                return "undone" if self._house.undo() else "nothing"
            case "show":
                return in_one_line(self._house.start())
            case "guard":
                self._house.guard(args[0])
                return self.guarded_names()
            case "release":
                self._house.release(args[0])
                return self.guarded_names()
            case "run":
                return self.end_of_run(text_of(args))
            case "keep":
                return self.keep(text_of(args))
            case "against":
                return self.against(text_of(args))
            case "seen":
                return self.see_by(args)

    def begin(self, text):
        """Makes a new house."""
        start = Start.read(text)
        self._house = House(start)
        return f"{len(start.lists)} lists, {len(start)} items"

    def do_all(self, text):
        """Does all rows of a program, or none."""
        rows = Program.read(text).rows
        self._house.tried(rows)
        for row in rows:
            self._house.do(row)
        return "done"

    def guarded_names(self):
        """The guarded names."""
        guarded = self._house.guarded
        return " ".join(guarded) if guarded else "none"

    def end_of_run(self, text):
        """Where a program stops, if it does."""
        outcome = run(Program.read(text), self._house.start())
        return f"stops {outcome.at}" if outcome.stopped else "ends"

    def keep(self, text):
        """Keeps a program."""
        self._kept = Program.read(text)
        return f"kept {len(self._kept)}"

    def against(self, text):
        """The least start at which the kept program and this one part."""
        least = least_start(self._kept, Program.read(text), seen=self._by)
        return "alike" if least is None else in_one_line(least)

    def see_by(self, names):
        """Lets programs be compared as these names see them, or as a whole."""
        self._by = ascending(names) if names else None
        return " ".join(self._by) if names else "all"

    def __len__(self):
        if self._house is None:
            return 0
        return len(self._house)
