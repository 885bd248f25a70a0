"""nevergoback.errors: the classes, their bases and their arguments."""

import unittest

from nevergoback import errors

# Each class of the interface: its built-in base and the names of its arguments.
CLASSES = {
    "InvalidTable": (ValueError, ("index",)),
    "InvalidWaits": (ValueError, ("index",)),
    "InvalidOptions": (ValueError, ("index",)),
    "InvalidLinks": (ValueError, ("index",)),
    "InvalidClaim": (ValueError, ()),
    "ParseError": (ValueError, ("line",)),
    "UnknownName": (LookupError, ("value",)),
    "NoRing": (RuntimeError, ()),
    "NotSafe": (RuntimeError, ()),
    "Refused": (RuntimeError, ("index", "reason")),
    "CannotGo": (RuntimeError, ("waited",)),
    "CannotHop": (RuntimeError, ()),
    "NothingDone": (RuntimeError, ()),
    "LimitExceeded": (OverflowError, ("limit",)),
}

VALUES = (None, -1, 0, 7, 10 ** 40, True, "NoRing", "", (), ("a", "b"), [1, {2: None}], {})


class Errors(unittest.TestCase):
    def test_each_is_a_direct_subclass_of_its_built_in_base(self):
        for name, (base, _) in CLASSES.items():
            with self.subTest(name):
                self.assertEqual(getattr(errors, name).__bases__, (base,))

    def test_none_is_a_subclass_of_another_one(self):
        for name in CLASSES:
            for other in CLASSES:
                if name != other:
                    with self.subTest(name, other=other):
                        self.assertFalse(issubclass(getattr(errors, name), getattr(errors, other)))

    def test_each_is_defined_in_this_module_under_its_own_name(self):
        for name in CLASSES:
            with self.subTest(name):
                self.assertEqual(getattr(errors, name).__module__, "nevergoback.errors")
                self.assertEqual(getattr(errors, name).__name__, name)

    def test_arguments_by_position(self):
        for name, (_, arguments) in CLASSES.items():
            for at in range(len(VALUES)):
                values = [VALUES[(at + k) % len(VALUES)] for k in range(len(arguments))]
                with self.subTest(name, values=values):
                    made = getattr(errors, name)(*values)
                    for argument, value in zip(arguments, values):
                        self.assertIs(getattr(made, argument), value)

    def test_arguments_by_name(self):
        for name, (_, arguments) in CLASSES.items():
            for at in range(len(VALUES)):
                values = [VALUES[(at + k) % len(VALUES)] for k in range(len(arguments))]
                with self.subTest(name, values=values):
                    made = getattr(errors, name)(**dict(zip(arguments, values)))
                    for argument, value in zip(arguments, values):
                        self.assertIs(getattr(made, argument), value)

    def test_refused_by_names_in_the_other_order(self):
        made = errors.Refused(reason="CannotGo", index=3)
        self.assertEqual((made.index, made.reason), (3, "CannotGo"))

    def test_each_takes_just_its_arguments(self):
        for name, (_, arguments) in CLASSES.items():
            if arguments:
                with self.subTest(name):
                    self.assertRaises(TypeError, getattr(errors, name))
                    self.assertRaises(TypeError, getattr(errors, name), *range(len(arguments) + 1))

    def test_each_can_be_raised_and_caught_by_its_base(self):
        for name, (base, arguments) in CLASSES.items():
            with self.subTest(name):
                with self.assertRaises(base) as caught:
                    raise getattr(errors, name)(*range(len(arguments)))
                for at, argument in enumerate(arguments):
                    self.assertEqual(getattr(caught.exception, argument), at)


if __name__ == "__main__":
    unittest.main()
