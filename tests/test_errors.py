import unittest

from lastshort import errors

PYTHON_BASES = {"InputError": ValueError, "StateError": LookupError, "SizeError": ArithmeticError}

# Each class that is created with one argument: its own base, and the attribute.
WITH_ARGUMENT = {
    "NotALoop": ("InputError", "value"),
    "NotASource": ("InputError", "value"),
    "NotAChain": ("InputError", "value"),
    "NotAReading": ("InputError", "value"),
    "InvalidText": ("InputError", "value"),
    "InvalidWord": ("InputError", "value"),
    "InvalidItems": ("InputError", "value"),
    "InvalidSize": ("InputError", "value"),
    "InvalidName": ("InputError", "value"),
    "InvalidCount": ("InputError", "value"),
    "InvalidTold": ("InputError", "value"),
    "InvalidPlace": ("InputError", "value"),
    "InvalidRow": ("InputError", "value"),
    "InvalidReplies": ("InputError", "index"),
    "InvalidDeeds": ("InputError", "index"),
    "TooManyReplies": ("SizeError", "limit"),
}

# Each class that is created without arguments, and its own base in the module, if it has one.
WITHOUT_ARGUMENT = {
    "InputError": None,
    "StateError": None,
    "SizeError": None,
    "Stopped": "StateError",
    "NothingToUndo": "StateError",
    "Busy": "StateError",
}


def nested(depth):
    value = ()
    for _ in range(depth - 1):
        value = (value, [value])
    return value


ARGUMENTS = [
    None, True, False, 0, 7, -1, 10 ** 20 - 1, "", "exact", "x" * 500, b"", b"ask", (), (1, 2), [], [1, [2]], {},
    {"a": [1]}, {1, 2}, object(), ValueError("x"), ValueError, len, range(3), ..., nested(15),
]


def classes_of_module():
    return {name: made for name, made in vars(errors).items() if isinstance(made, type)}


class ErrorsTest(unittest.TestCase):
    def check_family(self, error, name, base):
        python = PYTHON_BASES[base or name]
        for other, made in classes_of_module().items():
            with self.subTest(error=name, other=other):
                self.assertEqual(isinstance(error, made), other in (name, base))
        for other in PYTHON_BASES.values():
            self.assertEqual(isinstance(error, other), other is python)

    def test_the_module_has_exactly_the_listed_classes(self):
        self.assertEqual(set(classes_of_module()), set(WITH_ARGUMENT) | set(WITHOUT_ARGUMENT))

    def test_the_argument_is_kept_by_place(self):
        for name, (base, attribute) in WITH_ARGUMENT.items():
            for argument in ARGUMENTS:
                with self.subTest(name=name, argument=argument):
                    self.assertIs(getattr(getattr(errors, name)(argument), attribute), argument)

    def test_the_argument_is_kept_by_name(self):
        for name, (base, attribute) in WITH_ARGUMENT.items():
            for argument in ARGUMENTS:
                with self.subTest(name=name, argument=argument):
                    error = getattr(errors, name)(**{attribute: argument})
                    self.assertIs(getattr(error, attribute), argument)

    def test_only_the_listed_attribute_is_set(self):
        for name, (base, attribute) in WITH_ARGUMENT.items():
            with self.subTest(name=name):
                self.assertEqual(vars(getattr(errors, name)(5)), {attribute: 5})

    def test_families_of_the_classes_with_an_argument(self):
        for name, (base, attribute) in WITH_ARGUMENT.items():
            self.check_family(getattr(errors, name)(None), name, base)
            self.check_family(getattr(errors, name)(**{attribute: 1}), name, base)

    def test_families_of_the_classes_without_an_argument(self):
        for name, base in WITHOUT_ARGUMENT.items():
            self.check_family(getattr(errors, name)(), name, base)

    def test_each_class_has_one_base(self):
        for name, made in classes_of_module().items():
            with self.subTest(name=name):
                base = WITH_ARGUMENT[name][0] if name in WITH_ARGUMENT else WITHOUT_ARGUMENT[name]
                expected = PYTHON_BASES[name] if base is None else getattr(errors, base)
                self.assertEqual(made.__bases__, (expected,))

    def test_they_are_raised_and_caught_by_their_bases(self):
        with self.assertRaises(errors.InputError) as caught:
            raise errors.InvalidReplies(3)
        self.assertEqual(caught.exception.index, 3)
        with self.assertRaises(ArithmeticError) as caught:
            raise errors.TooManyReplies(limit=100)
        self.assertEqual(caught.exception.limit, 100)
        with self.assertRaises(errors.StateError):
            raise errors.Busy()

    def test_they_are_true_and_can_be_compared(self):
        for name in WITH_ARGUMENT:
            error = getattr(errors, name)(0)
            self.assertTrue(error)
            self.assertTrue(error == error)
            self.assertTrue(error != None)  # noqa: E711
        for name in WITHOUT_ARGUMENT:
            error = getattr(errors, name)()
            self.assertTrue(error)
            self.assertTrue(error == error)
            self.assertTrue(error != 0)


if __name__ == "__main__":
    unittest.main()
