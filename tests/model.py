"""What the tests hold the package against: runs told anew with Python's own lists, and some programs.

Nothing here uses the modules that are tested, but for rows, programs and starts.
"""

import functools
import itertools

from samelists.programs import Program
from samelists.rows import (
    Append, Assign, Clear, Copy, Extend, First, Full, Head, If, Join, Last, Let, New, Open, Pop, Prepend,
    Repeat, Same, Seal, Shift, Swap, Tail, Times, Turn,
)
from samelists.starts import Start, starts


class Box:
    """A list: told from others by being another object; `items` is a Python list, `frozen` a bool."""

    def __init__(self, frozen, items):
        self.frozen = frozen
        self.items = items


class Stopped(Exception):
    pass


def refuse_frozen(box):
    if box.frozen:
        raise Stopped


def refuse_empty(box):
    if not box.items:
        raise Stopped


def do_let(held, row):
    held[row.name] = held[row.other]


def do_swap(held, row):
    held[row.name], held[row.other] = held[row.other], held[row.name]


def do_new(held, row):
    held[row.name] = Box(False, [held[part] for part in row.parts])


def do_seal(held, row):
    held[row.name] = Box(True, [held[part] for part in row.parts])


def do_join(held, row):
    one, other = held[row.one], held[row.other]
    held[row.name] = Box(one.frozen, one.items + other.items)


def do_times(held, row):
    held[row.name] = Box(held[row.other].frozen, held[row.other].items * row.count)


def do_copy(held, row):
    other = held[row.other]
    held[row.name] = other if other.frozen else Box(False, other.items[:])


def do_first(held, row):
    refuse_empty(held[row.other])
    held[row.name] = held[row.other].items[0]


def do_last(held, row):
    refuse_empty(held[row.other])
    held[row.name] = held[row.other].items[-1]


def do_extend(held, row):
    box = held[row.name]
    if box.frozen:
        held[row.name] = Box(True, box.items + held[row.other].items)
    else:
        box.items += held[row.other].items


def do_repeat(held, row):
    box = held[row.name]
    if box.frozen:
        held[row.name] = Box(True, box.items * row.count)
    else:
        box.items *= row.count


def do_assign(held, row):
    refuse_frozen(held[row.name])
    held[row.name].items[:] = held[row.other].items


def do_append(held, row):
    refuse_frozen(held[row.name])
    held[row.name].items.append(held[row.other])


def do_prepend(held, row):
    refuse_frozen(held[row.name])
    held[row.name].items.insert(0, held[row.other])


def do_clear(held, row):
    refuse_frozen(held[row.name])
    held[row.name].items.clear()


def do_turn(held, row):
    refuse_frozen(held[row.name])
    held[row.name].items.reverse()


def do_pop(held, row):
    refuse_frozen(held[row.name])
    refuse_empty(held[row.name])
    held[row.name].items.pop()


def do_shift(held, row):
    refuse_frozen(held[row.name])
    refuse_empty(held[row.name])
    held[row.name].items.pop(0)


def do_head(held, row):
    refuse_frozen(held[row.name])
    refuse_empty(held[row.name])
    held[row.name].items[0] = held[row.other]


def do_tail(held, row):
    refuse_frozen(held[row.name])
    refuse_empty(held[row.name])
    held[row.name].items[-1] = held[row.other]


STEPS = {
    Let: do_let, Swap: do_swap, New: do_new, Seal: do_seal, Join: do_join, Times: do_times, Copy: do_copy,
    First: do_first, Last: do_last, Extend: do_extend, Repeat: do_repeat, Assign: do_assign,
    Append: do_append, Prepend: do_prepend, Clear: do_clear, Turn: do_turn, Pop: do_pop, Shift: do_shift,
    Head: do_head, Tail: do_tail,
}


def is_met(held, test):
    if isinstance(test, Same):
        return held[test.one] is held[test.other]
    if isinstance(test, Open):
        return not held[test.name].frozen
    return len(held[test.name].items) > 0


def lines_of(row):
    """How many rows a row is, with those within it: all lines but `else` and `end`."""
    return len([line for line in str(row).split("\n") if line not in ("else", "end")])


def do_all(held, rows, at=0, watch=None):
    """Does rows on boxes; returns the number of the row that stops, or None.

    What is passed as `watch` is called with the boxes and each row ahead of it.
    """
    for row in rows:
        if watch is not None:
            watch(held, row)
        stop = None
        if isinstance(row, If):
            if is_met(held, row.test):
                stop = do_all(held, row.rows, at + 1, watch)
            else:
                stop = do_all(held, row.others, at + 1 + sum(lines_of(one) for one in row.rows), watch)
        else:
            try:
                STEPS[type(row)](held, row)
            except Stopped:
                stop = at
        if stop is not None:
            return stop
        at += lines_of(row)
    return None


def boxes_of(start):
    """New boxes for the lists of a start, and who holds which of them."""
    boxes = [Box(frozen, []) for frozen in start.frozen]
    for box, items in zip(boxes, start.lists):
        box.items += [boxes[item] for item in items]
    return boxes, {name: boxes[number] for name, number in zip(start.names, start.holders)}


def told(boxes, held):
    """The tuples of holders, lists and frozen lists: these boxes first, then others as they are met."""
    names = sorted(held)
    places = {}
    order = []

    def take(more):
        for box in more:
            # Equal or not, only the very object counts; `order` keeps it alive, so its id stays its own.
            if places.setdefault(id(box), len(order)) == len(order):
                order.append(box)

    take(boxes)
    take([held[name] for name in names])
    for box in order:
        take(box.items)
    return (
        tuple(places[id(held[name])] for name in names),
        tuple(tuple(places[id(item)] for item in box.items) for box in order),
        tuple(box.frozen for box in order),
    )


def run_again(program, start):
    """The number of the row that stops (or None), holders, lists and frozen lists of the outcome."""
    boxes, held = boxes_of(start)
    at = do_all(held, program.rows)
    return (at, *told(boxes, held))


def seen_of(lists, known):
    """Rows of items with new lists numbered anew, as they are met; so many lists are known."""
    numbers = {}
    for row in lists:
        for number in row:
            if number >= known:
                numbers.setdefault(number, known + len(numbers))
    return tuple(tuple(numbers.get(number, number) for number in row) for row in lists)


def seen_again(program, start, names):
    """What names see of the outcome."""
    at, holders, lists, _ = run_again(program, start)
    looked_at = [lists[holders[start.names.index(name)]] for name in sorted(set(names))]
    return (at is not None, *seen_of(looked_at, len(start.lists)))


def compared(program, start, seen):
    """What is compared of the outcome: all but the number of the row that stopped, or what names see."""
    if seen is not None:
        return seen_again(program, start, seen)
    at, *rest = run_again(program, start)
    return (at is not None, *rest)


def names_of(p, q, seen=None, apart=()):
    return sorted({*p.names, *q.names, *(seen or ()), *itertools.chain(*apart)})


@functools.lru_cache(maxsize=None)
def few_starts(names, items):
    """All starts with at most so many items, ascending."""
    return [start for many in range(items + 1) for start in starts(names, many)]


def parting_starts(p, q, seen=None, apart=(), most=24):
    """Iterates over all starts meant with few enough items at which the programs part, ascending.

    As many items as point 11 tells are enough; but no more are tried than `most`.
    """
    names = names_of(p, q, seen, apart)
    for start in few_starts(tuple(names), min(p.asks + q.asks + 2, most)) if names else []:
        if all(start[one] != start[other] for one, other in apart):
            if compared(p, start, seen) != compared(q, start, seen):
                yield start


def some_row(random, names, depth):
    """Some row over these names, with blocks at most so deep."""
    def name():
        return random.choice(names)

    kinds = list(STEPS) + [If, If] * (depth > 0)
    kind = random.choice(kinds)
    if kind is If:
        test = random.choice([Same(name(), name()), Open(name()), Full(name())])
        rows = [[some_row(random, names, depth - 1) for _ in range(random.randint(0, 2))] for _ in range(2)]
        return If(test, *rows)
    if kind in (New, Seal):
        return kind(name(), *[name() for _ in range(random.randint(0, 3))])
    if kind is Join:
        return Join(name(), name(), name())
    if kind is Times:
        return Times(name(), name(), random.randint(0, 3))
    if kind is Repeat:
        return Repeat(name(), random.randint(0, 3))
    if kind in (Clear, Turn, Pop, Shift):
        return kind(name())
    return kind(name(), name())


def some_program(random, names, size, asks, depth=1):
    """Some program of at most so many rows at its top that asks at most so often."""
    while True:
        program = Program([some_row(random, names, depth) for _ in range(random.randint(0, size))])
        if program.asks <= asks and len(program) <= 12:
            return program


def near_program(random, program, names, asks):
    """A program that has much in common with another one, and asks at most so often."""
    while True:
        rows = list(program.rows)
        at = random.randint(0, len(rows))
        way = random.randrange(5)
        if way == 0:
            del rows[at:at + 1]
        elif way == 1:
            rows[at:at + 2] = rows[at:at + 2][::-1]
        elif way == 2:
            rows.insert(at, some_row(random, names, 1))
        elif way == 3:
            rows[at:at + 1] = [some_row(random, names, 1)]
        made = Program(rows)
        if made.asks <= asks and len(made) <= 12:
            return made
        if way == 4:
            return Program()
