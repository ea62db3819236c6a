import inspect
import unittest

from doorslips import errors
from tests.helper import Case

# The classes that the interface lists: the built-in exception, the class, its argument.
LISTED = (
    (ValueError, "InvalidHouse", "part"),
    (ValueError, "InvalidUse", None),
    (ValueError, "InvalidKeeper", None),
    (ValueError, "InvalidWorths", None),
    (ValueError, "InvalidClaim", None),
    (ValueError, "ParseError", "line"),
    (LookupError, "UnknownKind", "index"),
    (LookupError, "UnknownEntry", "number"),
    (LookupError, "UnknownCheckpoint", "number"),
    (LookupError, "UnknownRecord", "number"),
    (RuntimeError, "Never", "kind"),
    (RuntimeError, "Stays", "number"),
    (RuntimeError, "NotNow", "number"),
    (RuntimeError, "Lacking", "number"),
    (OverflowError, "LimitExceeded", "limit"),
)

ARGUMENTS = (None, 0, 7, 100, ("sizes",), ("kind", 3), "any", [1, [2]], {"a": (1,)}, True)


class TestErrors(Case):
    def test_these_classes_and_no_others(self):
        found = sorted(name for name, _ in inspect.getmembers(errors, inspect.isclass))
        self.assertEqual(found, sorted(name for _, name, _ in LISTED))

    def test_each_is_a_direct_subclass_of_the_named_exception_alone(self):
        for base, name, _ in LISTED:
            with self.subTest(name=name):
                self.assertEqual(getattr(errors, name).__bases__, (base,))
                self.assertEqual(getattr(errors, name).__module__, "doorslips.errors")

    def test_none_is_a_subclass_of_another_one(self):
        for _, one, _ in LISTED:
            for _, two, _ in LISTED:
                with self.subTest(one=one, two=two):
                    self.assertEqual(issubclass(getattr(errors, one), getattr(errors, two)), one == two)

    def test_each_keeps_its_argument_by_position_and_by_name(self):
        for base, name, argument in LISTED:
            if argument is None:
                continue
            for value in ARGUMENTS:
                with self.subTest(name=name, value=value):
                    made = (
                        self.answer(getattr(errors, name), value),
                        self.answer(getattr(errors, name), **{argument: value}),
                    )
                    for error in made:
                        self.assertIsInstance(error, base)
                        self.assertIs(getattr(error, argument), value)
                        self.assertEqual(vars(error), {argument: value})

    def test_each_takes_just_its_argument(self):
        for _, name, argument in LISTED:
            if argument is None:
                continue
            with self.subTest(name=name):
                self.assertRaises(TypeError, getattr(errors, name))
                self.assertRaises(TypeError, getattr(errors, name), 1, 2)

    def test_those_without_an_argument(self):
        for base, name, argument in LISTED:
            if argument is None:
                with self.subTest(name=name):
                    error = getattr(errors, name)()
                    self.assertIsInstance(error, base)
                    self.assertEqual(vars(error), {})

    def test_each_can_be_raised_and_caught_by_its_name_and_its_base(self):
        for base, name, argument in LISTED:
            arguments = () if argument is None else (5,)
            for caught in (base, getattr(errors, name)):
                with self.subTest(name=name, caught=caught):
                    with self.assertRaises(caught):
                        raise getattr(errors, name)(*arguments)


if __name__ == "__main__":
    unittest.main()
