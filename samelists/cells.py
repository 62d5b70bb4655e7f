"""Lists as runs see them: open or frozen, with items, and in a sketch with what is not known of them."""

from samelists.starts import Start


class Unknown(Exception):
    """A run asks what its sketch leaves open: the kind of a list, or what stands at an end of its middle.

    The word and the number are those of the tree that parts the sketch.
    """

    def __init__(self, word, number):
        self.word = word
        self.number = number


class Middle:
    """The unknown items of the list with this number, perhaps in reverse order."""

    def __init__(self, number, is_turned):
        self.number = number
        self.is_turned = is_turned
        # Below 0, so that it is not the number of a list.
        self.mark = -2 * number - (2 if is_turned else 1)

    def turned(self):
        """These items the other way round."""
        return Middle(self.number, not self.is_turned)

    def end_word(self, is_last):
        """The word that asks for the last or the first one of these items."""
        return "back" if is_last != self.is_turned else "front"


class Cell:
    """One list, which is the same as another one only if it is that very object.

    Only lists of a start have a number. `frozen` is None if a sketch does not tell it; the
    members are the items, as cells, and in a sketch also middles.
    """

    def __init__(self, number, frozen, members):
        self.number = number
        self.frozen = frozen
        self.members = members

    def stays(self):
        """Whether the list is frozen."""
        if self.frozen is None:
            raise Unknown("kind", self.number)
        return self.frozen

    def end(self, is_last):
        """The last or the first item; None if there is no item."""
        if len(self.members) == 0:
            return None
        member = self.members[-1] if is_last else self.members[0]
        if isinstance(member, Middle):
            raise Unknown(member.end_word(is_last), member.number)
        return member

    def has_items(self):
        """Whether there are items."""
        if any([isinstance(member, Cell) for member in self.members]):
            return True
        return self.end(False) is not None

    def joined(self, other):
        """x + y"""
        return Cell(None, self.stays(), self.members + other.members)

    def times(self, count):
        """x * count"""
        return Cell(None, self.stays(), self.members * count)

    def copied(self):
        """x[:]"""
        return self if self.stays() else Cell(None, False, list(self.members))

    def extended(self, other):
        """x += y; returns the list that x holds then."""
        if self.stays():
            return self.joined(other)
        self.members = self.members + other.members
        return self

    def repeated(self, count):
        """x *= count; returns the list that x holds then."""
        if self.stays():
            return self.times(count)
        self.members = self.members * count
        return self

    def turn(self):
        """Puts the items into reverse order."""
        behind = self.members[::-1]
        self.members = [member.turned() if isinstance(member, Middle) else member for member in behind]


def cells_of(start):
    """New cells for the lists of a start, by their numbers."""
    cells = [Cell(number, frozen, []) for number, frozen in enumerate(start.frozen)]
    for cell, items in zip(cells, start.lists):
        cell.members = [cells[item] for item in items]
    return cells


def add_new(order, met, members):
    """Puts the cells among the members that were not met yet behind the others."""
    for member in members:
        if isinstance(member, Cell) and member not in met:
            met[member] = True
            order.append(member)


def all_met(cells, held):
    """These cells, then all others that can be come to from those that are held and from these.

    The others stand in the order in which they are met: first those that are held, then, list by
    list in the order of all that were met so far, the items from left to right.
    """
    order = []
    met = {}
    add_new(order, met, cells)
    add_new(order, met, held)
    at = 0
    while at < len(order):
        add_new(order, met, order[at].members)
        at = at + 1
    return order


def numbers_of(order):
    """The number of each of these cells."""
    return {cell: number for number, cell in enumerate(order)}


def items_of(cell, numbers):
    """The items of a cell as numbers; a middle is its mark."""
    return tuple([part.mark if isinstance(part, Middle) else numbers[part] for part in cell.members])


def held_at(start):
    """The new cells that names hold at a start."""
    cells = cells_of(start)
    return {name: cells[number] for name, number in zip(start.names, start.holders)}


def start_of(held):
    """The start that names which hold these cells are, with what can be come to from them."""
    order = all_met([], list(held.values()))
    numbers = numbers_of(order)
    holders = {name: numbers[cell] for name, cell in held.items()}
    lists = [items_of(cell, numbers) for cell in order]
    return Start(holders, lists, [numbers[cell] for cell in order if cell.frozen])
