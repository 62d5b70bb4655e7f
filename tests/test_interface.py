"""The interface at the end of the document: modules, names and parameters."""

import importlib
import inspect
import unittest

FUNCTIONS = {
    "starts": {"starts": "(names, items)", "count_starts": "(names, items)"},
    "runs": {"run": "(program, start)"},
    "alike": {
        "alike": "(p, q, *, seen=None, apart=())", "least_start": "(p, q, *, seen=None, apart=())",
        "follows": "(p, q, *, seen=None, apart=())", "least_unlike": "(p, q, *, seen=None, apart=())",
        "apart_needed": "(p, q, *, seen=None)",
    },
    "papers": {
        "paper": "(p, q, *, seen=None, apart=())", "paper_holds": "(p, q, paper, *, seen=None, apart=())",
    },
    "choices": {
        "may_be_new": "(program, at, *, seen=None, apart=())", "most_new": "(program, *, seen=None, apart=())",
        "fewest_copies": "(program, *, seen=None, apart=())", "copies_needed": "(program, *, seen=None, apart=())",
        "idle_rows": "(program, *, seen=None, apart=())", "fewest_rows": "(program, *, seen=None, apart=())",
        "may_change_places": "(program, at, *, seen=None, apart=())",
    },
    "questions": {
        "can_be_one": "(program, one, other, *, apart=())", "stops": "(program, *, apart=())",
        "can_change": "(program, name, *, apart=())", "undoes": "(program, other, *, seen=None, apart=())",
    },
}
METHODS = {
    "programs": {"Program": {
        "__init__": "(self, rows=())", "without": "(self, at, *more)", "replaced": "(self, at, row)",
        "is_part_of": "(self, other)",
    }},
    "starts": {"Start": {"__init__": "(self, holders, lists, frozen=())"}},
    "heaps": {
        "Heap": {
            "__init__": "(self, start)", "opened": "(self, *held)", "sealed": "(self, *held)", "start": "(self)",
            "run": "(self, program)",
        },
        "Held": {
            "append": "(self, other)", "insert": "(self, at, other)", "pop": "(self, at=-1)", "clear": "(self)",
            "reverse": "(self)", "assign": "(self, other)", "copied": "(self)",
        },
    },
    "runs": {"Outcome": {"seen": "(self, names)"}},
    "houses": {"House": {
        "__init__": "(self, start)", "start": "(self)", "program": "(self)", "do": "(self, row)", "undo": "(self)",
        "guard": "(self, name)", "release": "(self, name)", "trial": "(self)", "within": "(self, work)",
        "tried": "(self, rows)",
    }},
    "desk": {"Desk": {"__init__": "(self)", "say": "(self, command)"}},
}
SIGNS = {
    "heaps": {
        "Heap": ["__getitem__", "__setitem__"],
        "Held": ["__len__", "__getitem__", "__setitem__", "__add__", "__mul__", "__rmul__", "__iadd__", "__imul__",
                 "__contains__", "__eq__"],
    },
    "runs": {"Outcome": ["__eq__"]},
    "houses": {"House": ["__len__"]},
    "desk": {"Desk": ["__len__"]},
}


def module(name):
    return importlib.import_module(f"samelists.{name}")


class InterfaceTest(unittest.TestCase):
    def test_functions(self):
        for file, functions in FUNCTIONS.items():
            for name, told in functions.items():
                found = getattr(module(file), name)
                self.assertEqual(found.__module__, f"samelists.{file}")
                self.assertEqual(str(inspect.signature(found)), told, name)

    def test_methods_stand_in_the_classes_themselves(self):
        for file, classes in METHODS.items():
            for name, methods in classes.items():
                found = getattr(module(file), name)
                self.assertEqual(found.__module__, f"samelists.{file}")
                for method, told in methods.items():
                    self.assertEqual(str(inspect.signature(vars(found)[method])), told, (name, method))

    def test_attributes_are_set_when_an_object_is_created(self):
        house = module("houses").House(module("starts").Start({"a": 0}, [[]]))
        self.assertLessEqual({"names", "guarded"}, set(vars(house)))

    def test_signs_stand_in_the_classes_themselves(self):
        for file, classes in SIGNS.items():
            for name, methods in classes.items():
                for method in methods:
                    self.assertIn(method, vars(getattr(module(file), name)), name)
