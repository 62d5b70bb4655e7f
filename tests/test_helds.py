"""Point 22: objects that stand for lists of a heap, beside Python's lists and tuples."""

import random
import unittest

import model
from samelists.errors import Frozen, NoItem
from samelists.heaps import Heap, Held
from samelists.starts import Start, starts

FAR = [10 ** 6, 2 ** 31, 2 ** 63, 2 ** 64 + 1, 10 ** 30]
INDEXES = [*range(-6, 7), *FAR, *[-at for at in FAR]]


def heap_of(size, frozen=False):
    """A heap whose name `a` holds a list of so many different lists; `b` holds another one."""
    lists = [list(range(2, size + 2)), [0]] + [[]] * size
    return Heap(Start({"a": 0, "b": 1}, lists, [0] if frozen else []))


def same(held, others):
    """Whether the items are just these."""
    return len(held) == len(others) and all(held[at] == other for at, other in enumerate(others))


class ReadTest(unittest.TestCase):
    def test_length(self):
        for size in range(4):
            for frozen in (False, True):
                self.assertEqual(len(heap_of(size, frozen)["a"]), size)

    def test_index(self):
        for size in range(4):
            for frozen in (False, True):
                held = heap_of(size, frozen)["a"]
                items = [held[at] for at in range(size)]
                for at in INDEXES:
                    with self.subTest(size=size, at=at):
                        try:
                            told = items[at]
                        except IndexError:
                            with self.assertRaises(NoItem):
                                held[at]
                        else:
                            self.assertIsInstance(held[at], Held)
                            self.assertTrue(held[at] == told)

    def test_items_are_different(self):
        held = heap_of(4)["a"]
        for one in range(4):
            for other in range(4):
                self.assertIs(held[one] == held[other], one == other)
                self.assertIs(held[one] != held[other], one != other)

    def test_equal_to_nothing_else(self):
        class Yes:
            def __eq__(self, other):
                return True

        heap, again = heap_of(1), heap_of(1)
        self.assertIs(heap["a"] == heap["a"], True)
        self.assertIs(heap["a"] != heap["a"], False)
        for other in (heap["b"], again["a"], heap["a"][0], heap["a"].copied(), heap, None, 0, True, "a", [], (), Yes()):
            self.assertIs(heap["a"] == other, False)
            self.assertIs(heap["a"] != other, True)

    def test_lists_with_the_same_items_are_not_equal(self):
        heap = heap_of(0)
        self.assertIs(heap.sealed() == heap.sealed(), False)
        self.assertIs(heap.opened(heap["a"]) == heap.opened(heap["a"]), False)

    def test_frozen(self):
        heap = heap_of(1, True)
        self.assertIs(heap["a"].is_frozen, True)
        self.assertIs(heap["b"].is_frozen, False)
        self.assertIs(heap["a"][0].is_frozen, False)

    def test_contains(self):
        heap = heap_of(2)
        one, other = heap["a"], heap["b"]
        self.assertIs(one[0] in one, True)
        self.assertIs(one[1] in one, True)
        self.assertIs(one in one, False)
        self.assertIs(one in other, True)
        # Only the very list counts, whatever its items are, and not the items of items.
        self.assertIs(heap.opened() in one, False)
        self.assertIs(one[0] in other, False)
        one.append(one)
        self.assertIs(one in one, True)
        self.assertIs(one not in one, False)
        self.assertIs(heap.opened(one) in heap.sealed(heap.opened(one)), False)

    def test_not_iterated_over(self):
        self.assertRaises(TypeError, iter, heap_of(2)["a"])


class NewListsTest(unittest.TestCase):
    def test_sum(self):
        for frozen in (False, True):
            heap = heap_of(2, frozen)
            one, other = heap["a"], heap["b"]
            for left, right in [(one, other), (other, one), (one, one), (other, other)]:
                made = left + right
                items = [side[at] for side in (left, right) for at in range(len(side))]
                self.assertTrue(same(made, items))
                self.assertIs(made.is_frozen, left.is_frozen)
                self.assertFalse(made == left or made == right or made == left + right)
        self.assertEqual(heap.start(), heap_of(2, True).start())

    def test_sum_with_an_empty_list_is_new(self):
        heap = heap_of(0, True)
        made = heap["a"] + heap["a"]
        self.assertEqual((len(made), made.is_frozen, made == heap["a"]), (0, True, False))

    def test_times(self):
        for frozen in (False, True):
            for count in range(4):
                heap = heap_of(2, frozen)
                one = heap["a"]
                for made in (one * count, count * one):
                    self.assertTrue(same(made, [one[0], one[1]] * count))
                    self.assertIs(made.is_frozen, frozen)
                    self.assertFalse(made == one)
                self.assertEqual(heap.start(), heap_of(2, frozen).start())

    def test_copied(self):
        heap = heap_of(2)
        made = heap["a"].copied()
        self.assertTrue(same(made, [heap["a"][0], heap["a"][1]]))
        self.assertIs(made.is_frozen, False)
        self.assertFalse(made == heap["a"])
        made.pop()
        heap["b"].append(made)
        self.assertEqual(len(heap["a"]), 2)
        frozen = heap.sealed(made)
        self.assertTrue(frozen.copied() == frozen)

    def test_other_operands(self):
        held = heap_of(1)["a"]
        for other in (None, "a", [], (), [held], 1.5):
            self.assertRaises(TypeError, lambda: held + other)
            self.assertRaises(TypeError, lambda: held * other)
            self.assertRaises(TypeError, lambda: other * held)
        with self.assertRaises(TypeError):
            held += [held]
        with self.assertRaises(TypeError):
            held *= "a"
        self.assertEqual(len(held), 1)


class ChangeTest(unittest.TestCase):
    def test_set_item(self):
        for at in INDEXES:
            heap = heap_of(3)
            held, other = heap["a"], heap["b"]
            items = [held[0], held[1], held[2]]
            try:
                items[at] = other
            except IndexError:
                with self.assertRaises(NoItem):
                    held[at] = other
            else:
                held[at] = other
            self.assertTrue(same(held, items))

    def test_append_and_insert(self):
        for size in range(4):
            for at in INDEXES:
                heap = heap_of(size)
                held, other = heap["a"], heap["b"]
                items = [held[k] for k in range(size)]
                far = max(-10, min(at, 10))
                items.insert(far, other)
                self.assertIsNone(held.insert(at, other))
                self.assertTrue(same(held, items), (size, at))
                items.append(held)
                self.assertIsNone(held.append(held))
                self.assertTrue(same(held, items))

    def test_pop(self):
        for size in range(4):
            for at in INDEXES:
                held = heap_of(size)["a"]
                items = [held[k] for k in range(size)]
                if -size <= at < size:
                    gone = held.pop(at)
                    self.assertIsInstance(gone, Held)
                    self.assertTrue(gone == items.pop(at))
                else:
                    self.assertRaises(NoItem, held.pop, at)
                self.assertTrue(same(held, items))

    def test_pop_the_last_one(self):
        held = heap_of(2)["a"]
        first, last = held[0], held[1]
        self.assertTrue(held.pop() == last)
        self.assertTrue(held.pop(at=-1) == first)
        self.assertRaises(NoItem, held.pop)

    def test_clear_and_reverse(self):
        held = heap_of(3)["a"]
        items = [held[0], held[1], held[2]]
        self.assertIsNone(held.reverse())
        self.assertTrue(same(held, items[::-1]))
        self.assertIsNone(held.clear())
        self.assertTrue(same(held, []))
        held.reverse()
        self.assertTrue(same(held, []))

    def test_assign(self):
        heap = heap_of(3)
        held, other = heap["a"], heap.sealed(heap["b"], heap["a"])
        self.assertIsNone(held.assign(held))
        self.assertEqual(len(held), 3)
        self.assertIsNone(held.assign(other))
        self.assertTrue(same(held, [heap["b"], heap["a"]]))
        held.append(held)
        self.assertEqual(len(other), 2)
        heap["b"].assign(held)
        held.clear()
        self.assertEqual(len(heap["b"]), 3)

    def test_in_place_signs_of_open_lists(self):
        heap = heap_of(2)
        held = kept = heap["a"]
        items = [held[0], held[1]]
        held += heap["b"]
        self.assertTrue(held == kept and same(kept, [*items, kept]))
        held += held
        self.assertTrue(held == kept and same(kept, [*items, kept] * 2))
        held += heap.sealed(heap["b"])
        self.assertTrue(held == kept and len(kept) == 7)
        for count, size in [(1, 7), (3, 21), (2, 42), (0, 0)]:
            held *= count
            self.assertTrue(held == kept and len(kept) == size)
        self.assertIs(held.is_frozen, False)

    def test_in_place_signs_of_frozen_lists(self):
        heap = heap_of(2, True)
        held = kept = heap["a"]
        items = [held[0], held[1]]
        held += heap["b"]
        self.assertFalse(held == kept)
        self.assertTrue(same(held, [*items, kept]) and same(kept, items) and held.is_frozen)
        for count in range(4):
            held = kept
            held *= count
            self.assertFalse(held == kept)
            self.assertTrue(same(held, items * count) and same(kept, items) and held.is_frozen)
        self.assertEqual(heap.start(), heap_of(2, True).start())

    def test_all_objects_for_one_list_see_a_change(self):
        heap = heap_of(1)
        one, other, third = heap["a"], heap["b"][0], heap.opened(heap["a"])[0]
        other.append(heap["b"])
        self.assertEqual((len(one), len(third)), (2, 2))
        third.clear()
        self.assertEqual((len(one), len(other)), (0, 0))


class FrozenTest(unittest.TestCase):
    def test_refused_and_nothing_changed(self):
        for size in range(3):
            heap = heap_of(size, True)
            held, other = heap["a"], heap["b"]
            told = heap.start()
            for at in (0, -1, 5, -5, 10 ** 30):
                # Frozen comes ahead of NoItem.
                with self.assertRaises(Frozen):
                    held[at] = other
                self.assertRaises(Frozen, held.insert, at, other)
                self.assertRaises(Frozen, held.pop, at)
            self.assertRaises(Frozen, held.append, other)
            self.assertRaises(Frozen, held.pop)
            self.assertRaises(Frozen, held.clear)
            self.assertRaises(Frozen, held.reverse)
            self.assertRaises(Frozen, held.assign, other)
            self.assertRaises(Frozen, held.assign, held)
            self.assertEqual(heap.start(), told)
            # An index that is none is told also of a frozen list.
            self.assertRaises(NoItem, lambda: held[size])

    def test_arguments_by_name(self):
        heap = heap_of(1)
        held = heap["a"]
        held.append(other=held)
        held.insert(at=0, other=heap["b"])
        self.assertTrue(held.pop(at=0) == heap["b"])
        held.assign(other=heap["b"])
        self.assertTrue(same(held, [held]))


class RandomTest(unittest.TestCase):
    def test_against_lists_of_python(self):
        some = random.Random(22)
        given = [start for items in range(3) for start in starts(["a", "b", "c"], items)]
        for _ in range(300):
            start = some.choice(given)
            heap, (_, held) = Heap(start), model.boxes_of(start)
            for _ in range(8):
                self.step(some, heap, held)
                now = heap.start()
                self.assertEqual((now.holders, now.lists, now.frozen), model.told([], held))

    def step(self, some, heap, held):
        """Does one thing on a heap and on boxes."""
        x, y, z = [some.choice("abc") for _ in range(3)]
        one, other, at = heap[x], heap[y], some.randint(-4, 4)
        box, more = held[x], held[y]
        way = some.randrange(10)
        if way == 0:
            heap[z] = one + other
            held[z] = model.Box(box.frozen, box.items + more.items)
        elif way == 1:
            heap[z] = one * (at % 4)
            held[z] = model.Box(box.frozen, box.items * (at % 4))
        elif way == 2:
            heap[z] = heap.sealed(one, other)
            held[z] = model.Box(True, [box, more])
        elif way == 3:
            heap[z] = heap.opened(one)
            held[z] = model.Box(False, [box])
        elif way == 4 and -len(box.items) <= at < len(box.items):
            heap[z] = one[at]
            held[z] = box.items[at]
        elif way == 5 and not box.frozen:
            one.insert(at, other)
            box.items.insert(at, more)
        elif way == 6 and not box.frozen and -len(box.items) <= at < len(box.items):
            heap[z] = one.pop(at)
            held[z] = box.items.pop(at)
        elif way == 7 and not box.frozen and -len(box.items) <= at < len(box.items):
            one[at] = other
            box.items[at] = more
        elif way == 8 and not box.frozen:
            one.reverse()
            box.items.reverse()
        elif way == 9 and not box.frozen:
            one.assign(other)
            box.items[:] = more.items
