"""Point 12: the errors."""

import unittest

from samelists import errors

WITH_ARGUMENT = {
    "InvalidRow": "word",
    "InvalidText": "at",
    "NoName": "name",
    "NoRow": "at",
    "Stops": "at",
    "Guarded": "name",
}
WITHOUT_ARGUMENT = ["NoItem", "Frozen", "InvalidCommand"]


class ErrorsTest(unittest.TestCase):
    def test_base(self):
        self.assertEqual(errors.SameError.__bases__, (ValueError,))
        self.assertIsInstance(errors.SameError(), ValueError)

    def test_each_is_a_direct_subclass_alone(self):
        for name in [*WITH_ARGUMENT, *WITHOUT_ARGUMENT]:
            with self.subTest(name):
                self.assertEqual(getattr(errors, name).__bases__, (errors.SameError,))
                self.assertEqual(getattr(errors, name).__name__, name)

    def test_no_other_errors(self):
        found = {c.__name__ for c in errors.SameError.__subclasses__()}
        self.assertEqual(found, {*WITH_ARGUMENT, *WITHOUT_ARGUMENT})

    def test_keeps_what_it_was_made_of(self):
        for name, attribute in WITH_ARGUMENT.items():
            for value in ("x", 3, -1, None, True, [], [[1]], {"a": 1}, (1, "b"), object()):
                with self.subTest(name, value=value):
                    error = getattr(errors, name)
                    self.assertIs(getattr(error(value), attribute), value)
                    self.assertIs(getattr(error(**{attribute: value}), attribute), value)
                    self.assertEqual(vars(error(value)), {attribute: value})

    def test_without_arguments(self):
        for name in WITHOUT_ARGUMENT:
            with self.subTest(name):
                self.assertEqual(vars(getattr(errors, name)()), {})

    def test_raised_and_caught(self):
        for name in WITH_ARGUMENT:
            error = getattr(errors, name)
            with self.assertRaises(errors.SameError) as caught:
                raise error("x")
            self.assertIs(type(caught.exception), error)
        for name in WITHOUT_ARGUMENT:
            with self.assertRaises(ValueError):
                raise getattr(errors, name)()

    def test_one_is_not_caught_as_another(self):
        made = [getattr(errors, name)("x") for name in WITH_ARGUMENT]
        made += [getattr(errors, name)() for name in WITHOUT_ARGUMENT]
        classes = [type(error) for error in made]
        for at, error in enumerate(made):
            found = [isinstance(error, kind) for kind in classes]
            self.assertEqual(found, [other == at for other in range(len(classes))])
