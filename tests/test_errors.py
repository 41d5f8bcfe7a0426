"""The error classes of the interface."""

import unittest

from wordways import errors

BASES = {
    "NoPlace": KeyError,
    "NoTie": KeyError,
    "NoName": ValueError,
    "Tied": RuntimeError,
    "NoMark": LookupError,
    "NoText": ValueError,
    "NotFormed": ValueError,
    "NoWay": LookupError,
    "NoAsk": KeyError,
    "NoKind": ValueError,
    "Full": LookupError,
    "NotDone": RuntimeError,
}
FIELDS = {"NoWay": "many", "Full": "most", "NotDone": "at"}


class ErrorsTest(unittest.TestCase):
    def test_each_class_stands_right_under_its_base(self):
        for name, base in BASES.items():
            with self.subTest(name):
                self.assertEqual(getattr(errors, name).__bases__, (base,))
                self.assertEqual(getattr(errors, name).__name__, name)

    def test_none_stands_under_another(self):
        for name in BASES:
            for other in BASES:
                if name != other:
                    self.assertFalse(issubclass(getattr(errors, name), getattr(errors, other)))

    def test_fields_are_set_by_place(self):
        for name, field in FIELDS.items():
            for number in (0, 7, 10 ** 59):
                with self.subTest(name, number=number):
                    self.assertEqual(vars(getattr(errors, name)(number))[field], number)

    def test_each_is_caught_by_its_base(self):
        for name, base in BASES.items():
            with self.subTest(name):
                made = getattr(errors, name)
                with self.assertRaises(base) as caught:
                    raise made(3) if name in FIELDS else made("why")
                self.assertIs(type(caught.exception), made)


if __name__ == "__main__":
    unittest.main()
