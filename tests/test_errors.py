import unittest

from spindlefit import errors

# Built-in base -> {class name: name of its value, or None}, as point [20] lists them.
LISTED = {
    ValueError: {
        "Unfit": "machine", "SameMachine": "machine", "Misfit": "place", "Duplicate": "size",
        "Contradiction": "machine", "BadText": "text", "BadLine": "number",
    },
    LookupError: {
        "NoMachine": "machine", "NotInRack": "size", "NoRow": "number", "NoNumber": "number",
        "NoSpindle": "size", "NoState": "many",
    },
    RuntimeError: {
        "NoSetting": None, "Locked": "machine", "NotLocked": "machine", "Unreachable": "size",
        "LastSpindle": None, "OtherShop": None,
    },
    OverflowError: {"TooMany": "many", "Full": "many"},
}
ROWS = [(base, name, field) for base, names in LISTED.items() for name, field in names.items()]
WITH_VALUE = [row for row in ROWS if row[2] is not None]
WITHOUT_VALUE = [row for row in ROWS if row[2] is None]


def values_for(field):
    if field == "text":
        return ["", "5 2 3", "x" * 500]
    # Python refuses to write out ints of more than 4300 digits; an error must hold them all the same.
    return [0, 1, -1, 12, 10 ** 9, -10 ** 30, 10 ** 5000]


class Errors(unittest.TestCase):
    def test_there_are_twenty_one(self):
        self.assertEqual(len(ROWS), 21)
        self.assertEqual(sorted(row[1] for row in WITHOUT_VALUE), ["LastSpindle", "NoSetting", "OtherShop"])

    def test_the_only_base_is_the_builtin_one(self):
        for base, name, _ in ROWS:
            with self.subTest(name):
                self.assertEqual(getattr(errors, name).__bases__, (base,))
                self.assertEqual(getattr(errors, name).__name__, name)

    def test_by_position(self):
        for _, name, field in WITH_VALUE:
            for value in values_for(field):
                with self.subTest(name):
                    self.assertEqual(getattr(getattr(errors, name)(value), field), value)

    def test_by_name(self):
        for _, name, field in WITH_VALUE:
            for value in values_for(field):
                with self.subTest(name):
                    made = getattr(errors, name)(**{field: value})
                    self.assertEqual(getattr(made, field), value)

    def test_the_value_is_kept_as_it_is(self):
        for _, name, field in WITH_VALUE:
            value = values_for(field)[-1]
            with self.subTest(name):
                self.assertIs(getattr(getattr(errors, name)(value), field), value)

    def test_two_errors_keep_values_of_their_own(self):
        for _, name, field in WITH_VALUE:
            one, other = values_for(field)[:2]
            first, second = getattr(errors, name)(one), getattr(errors, name)(other)
            with self.subTest(name):
                self.assertEqual((getattr(first, field), getattr(second, field)), (one, other))

    def test_a_missing_a_second_or_a_misnamed_value_is_refused(self):
        for _, name, field in WITH_VALUE:
            made = getattr(errors, name)
            with self.subTest(name):
                self.assertRaises(TypeError, made)
                self.assertRaises(TypeError, made, 1, 2)
                self.assertRaises(TypeError, lambda: made(**{field + "s": 1}))

    def test_without_values(self):
        for base, name, _ in WITHOUT_VALUE:
            with self.subTest(name):
                self.assertIsInstance(getattr(errors, name)(), base)

    def test_raised_and_caught_by_the_builtin_class(self):
        for base, name, field in ROWS:
            made = getattr(errors, name)
            with self.subTest(name):
                with self.assertRaises(base) as caught:
                    raise made() if field is None else made(7)
                self.assertIs(type(caught.exception), made)
                if field is not None:
                    self.assertEqual(getattr(caught.exception, field), 7)

    def test_no_error_is_a_subclass_of_another(self):
        for _, one, _ in ROWS:
            for _, other, _ in ROWS:
                if one != other:
                    self.assertFalse(issubclass(getattr(errors, one), getattr(errors, other)), (one, other))


if __name__ == "__main__":
    unittest.main()
