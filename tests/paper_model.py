"""Papers checked anew: in each sketch, programs run with Python's own lists.

In the place of a middle stand two lists that are found nowhere else. So two rows of items with
middles are the same if and only if they are the same with these lists, also where middles are turned.
"""

import itertools

import model
from samelists.rows import First, Full, Head, If, Last, Pop, Shift, Tail


class Asked(Exception):
    """A run asked what its sketch leaves open."""


class SketchBox:
    """A list of a sketch; its kind may be asked only if it is told, as long as a run goes on."""

    def __init__(self, kind, items):
        self.kind = kind
        self.items = items
        self.is_over = False

    @property
    def frozen(self):
        if self.kind is None and not self.is_over:
            raise Asked
        return self.kind


class Stand(model.Box):
    """One of the two lists in the place of a middle."""

    def __init__(self):
        super().__init__(None, [])


def ask_ends(held, row):
    """Raises Asked if a row or the test of a block looks at a middle."""
    if isinstance(row, If):
        if isinstance(row.test, Full):
            items = held[row.test.name].items
            if items and all(isinstance(item, Stand) for item in items):
                raise Asked
        return
    if isinstance(row, (First, Last)):
        items = held[row.other].items
    elif isinstance(row, (Pop, Shift, Head, Tail)):
        # A frozen list stops the row ahead of the question.
        items = [] if held[row.name].frozen else held[row.name].items
    else:
        return
    if items and isinstance(items[-1 if isinstance(row, (Last, Pop, Tail)) else 0], Stand):
        raise Asked


def view_in(sketch, program, seen):
    """What is compared of the run of a program in a sketch; raises Asked."""
    holders, lists = sketch
    boxes = [SketchBox(kind, []) for kind, _, _, _ in lists]
    stands = []
    for box, (_, front, has_middle, back) in zip(boxes, lists):
        middle = [Stand(), Stand()] if has_middle else []
        stands += middle
        box.items = [*[boxes[item] for item in front], *middle, *[boxes[item] for item in back]]
    held = {name: boxes[number] for name, number in holders.items()}
    at = model.do_all(held, program.rows, watch=ask_ends)
    for box in boxes:
        box.is_over = True
    places, rows, kinds = model.told([*boxes, *stands], held)
    if seen is None:
        return at is not None, places, rows, kinds
    looked_at = [rows[places[sorted(held).index(name)]] for name in sorted(set(seen))]
    return (at is not None, *model.seen_of(looked_at, len(boxes) + len(stands)))


def sketches_within(sketch, tree):
    """The sketches that a tree makes of a sketch, each with its tree; None if it is no such tree."""
    holders, lists = sketch
    if type(tree) is not tuple or len(tree) not in (4, 5) or type(tree[1]) is not int:
        return None
    word, number, *trees = tree
    if number not in range(len(lists)):
        return None
    kind, front, has_middle, back = lists[number]

    def with_list(told, *more):
        return holders, [*lists[:number], told, *lists[number + 1:], *more]

    if word == "kind" and len(trees) == 2 and kind is None:
        return [(with_list((flag, front, has_middle, back)), part) for flag, part in zip((False, True), trees)]
    if word not in ("front", "back") or len(trees) != 3 or not has_middle:
        return None
    none, known, fresh = trees
    if type(known) is not tuple or len(known) != len(lists):
        return None
    made = [(with_list((kind, front, False, back)), none)]
    for item, part in enumerate([*known, fresh]):
        more = [(None, [], True, [])] if item == len(lists) else []
        ends = (front + [item], True, back) if word == "front" else (front, True, [item] + back)
        made.append((with_list((kind, *ends), *more), part))
    return made


def tree_holds(p, q, sketch, tree, seen):
    if type(tree) is tuple and len(tree) == 0:
        try:
            return view_in(sketch, p, seen) == view_in(sketch, q, seen)
        except Asked:
            return False
    made = sketches_within(sketch, tree)
    return made is not None and all(tree_holds(p, q, part, inner, seen) for part, inner in made)


def first_of_all(names, apart):
    """The first sketches."""
    made = []
    for numbers in itertools.product(range(len(names)), repeat=len(names)):
        if all(number <= max(numbers[:at], default=-1) + 1 for at, number in enumerate(numbers)):
            holders = dict(zip(names, numbers))
            if all(holders[one] != holders[other] for one, other in apart):
                made.append((holders, [(None, [], True, [])] * len(set(numbers))))
    return made


def holds_again(p, q, paper, seen=None, apart=()):
    """What `paper_holds` should tell."""
    firsts = first_of_all(model.names_of(p, q, seen, apart), apart)
    if type(paper) is not tuple or len(paper) != len(firsts):
        return False
    return all(tree_holds(p, q, sketch, tree, seen) for sketch, tree in zip(firsts, paper))
