"""Papers that show that two programs are alike, and how they are checked."""

from samelists.cells import Unknown
from samelists.checks import is_integer
from samelists.comparing import Comparison

END_WORDS = ("front", "back")


def joined_tree(word, number, trees):
    """The tree that parts a sketch, with these trees in the parts."""
    if word == "kind":
        return (word, number, *trees)
    return (word, number, trees[0], tuple(trees[1:-1]), trees[-1])


def right_tree(comparison, sketch):
    """A tree that is right in a sketch, or None if outcomes part there."""
    try:
        return () if comparison.parted(sketch) is None else None
    except Unknown as e:
        word = e.word
        number = e.number
    trees = []
    for part in sketch.answers(word, number):
        tree = right_tree(comparison, part)
        if tree is None:
            return None
        trees.append(tree)
    return joined_tree(word, number, trees)


def paper(p, q, *, seen=None, apart=()):
    """A paper that shows that the programs are alike, or None if they are not."""
    comparison = Comparison(p, q, seen, apart)
    trees = []
    for sketch in comparison.sketches:
        tree = right_tree(comparison, sketch)
        if tree is None:
            return None
        trees.append(tree)
    return tuple(trees)


def is_tuple_of(value, size):
    """Whether any value is a tuple of so many items."""
    return isinstance(value, tuple) and len(value) == size


def trees_of(tree, lists):
    """The trees within a tree for a sketch with so many lists; None if it has not the form of one."""
    if is_tuple_of(tree, 4) and tree[0] == "kind":
        return list(tree[2:])
    if is_tuple_of(tree, 5) and tree[0] in END_WORDS and is_tuple_of(tree[3], lists):
        return [tree[2]] + list(tree[3]) + [tree[4]]
    return None


def parted_by(sketch, tree):
    """The parts of a sketch, each with its tree; None if the value is no tree that may part it."""
    trees = trees_of(tree, len(sketch.lists))
    if trees is None or not is_integer(tree[1]) or not 0 <= tree[1] < len(sketch.lists):
        return None
    if not sketch.leaves_open(tree[0], tree[1]):
        return None
    return list(zip(sketch.answers(tree[0], tree[1]), trees))


def is_shown(comparison, sketch):
    """Whether both programs run in a sketch without an open question, and to the same outcome."""
    try:
        return comparison.parted(sketch) is None
    except Unknown:
        return False


def paper_holds(p, q, paper, *, seen=None, apart=()):
    """Whether any value is a paper that shows that the programs are alike."""
    comparison = Comparison(p, q, seen, apart)
    if not is_tuple_of(paper, len(comparison.sketches)):
        return False
    work = [(sketch, tree, False) for sketch, tree in zip(comparison.sketches, paper)]
    while work:
        sketch, tree, was_shown = work.pop()
        # What is shown in a sketch is shown in all its parts, too, however many a paper makes.
        shown = was_shown or is_shown(comparison, sketch)
        if not is_tuple_of(tree, 0):
            parts = parted_by(sketch, tree)
            if parts is None:
                return False
            work.extend([(part, inner, shown) for part, inner in parts])
        elif not shown:
            return False
    return True
