"""Choices about a program: which rows may be new lists, which copies are needed, what can be left out."""

from samelists.alike import alike, least_start
from samelists.errors import NoRow
from samelists.programs import Program
from samelists.rows import Copy, Extend, Join, Let, Repeat, Times
from samelists.ways import all_parts, selections


def new_row(row):
    """The row that makes a new list where this one may change a list in place; None for other rows."""
    match row:
        case Extend(name=name, other=other):
            return Join(name, name, other)
        case Repeat(name=name, count=count):
            return Times(name, name, count)
        case _:
            return None


def with_new(program, numbers):
    """The program with new lists in the rows with these numbers."""
    made = program
    for at in numbers:
        made = made.replaced(at, new_row(program[at]))
    return made


def may_be_new(program, at, *, seen=None, apart=()):
    """Whether the program is alike with a new list in the row `x += y` or `x *= count` with this number."""
    if new_row(program[at]) is None:
        raise NoRow(at)
    return alike(program, with_new(program, [at]), seen=seen, apart=apart)


def most_new(program, *, seen=None, apart=()):
    """The most rows that may all be replaced at once as `may_be_new` tells of one."""
    numbers = [at for at in range(len(program)) if new_row(program[at]) is not None]
    for count in range(len(numbers), 0, -1):
        for chosen in selections(numbers, count):
            if alike(program, with_new(program, chosen), seen=seen, apart=apart):
                return chosen
    return ()


def copies_of(program):
    """The numbers of the copies of a program."""
    return [at for at in range(len(program)) if isinstance(program[at], Copy)]


def with_copies(program, kept):
    """The program with `Let` in the place of all copies but those with the numbers that are kept."""
    made = program
    for at in copies_of(program):
        if at not in kept:
            made = made.replaced(at, Let(program[at].name, program[at].other))
    return made


def fewest_copies(program, *, seen=None, apart=()):
    """The fewest copies that must stay, if all others become `Let`."""
    copies = copies_of(program)
    for count in range(len(copies)):
        for kept in selections(copies, count):
            if alike(program, with_copies(program, kept), seen=seen, apart=apart):
                return kept
    return tuple(copies)


def copies_needed(program, *, seen=None, apart=()):
    """For each of the fewest copies, the least start at which the program without it does otherwise."""
    kept = fewest_copies(program, seen=seen, apart=apart)
    needed = []
    for at in kept:
        fewer = with_copies(program, [other for other in kept if other != at])
        needed.append((at, least_start(program, fewer, seen=seen, apart=apart)))
    return tuple(needed)


def idle_rows(program, *, seen=None, apart=()):
    """The numbers of the rows that can be left out, each alone."""
    return tuple([at for at in range(len(program))
                  if alike(program, program.without(at), seen=seen, apart=apart)])


def fewest_rows(program, *, seen=None, apart=()):
    """The part of the program with the fewest rows that does the same."""
    made = [Program(rows) for rows in all_parts(program.rows)]
    for size in range(len(program)):
        for part in made:
            if len(part) == size and alike(program, part, seen=seen, apart=apart):
                return part
    return program


def may_change_places(program, at, *, seen=None, apart=()):
    """Whether the program does the same with two rows, one behind the other, exchanged."""
    rows = program.rows
    if not 0 <= at < len(rows) - 1:
        raise NoRow(at)
    exchanged = Program([*rows[:at], rows[at + 1], rows[at], *rows[at + 2:]])
    return alike(program, exchanged, seen=seen, apart=apart)
