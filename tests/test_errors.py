"""The interface's errors: what they are made of, and what they are beneath."""

import unittest

from boughkept import errors

FIELDS = {
    "NoText": ("row",),
    "NoWood": ("word", "name"),
    "NoTree": ("at",),
    "NoWord": ("at",),
    "TooLong": ("most",),
    "NoReader": ("word", "maker"),
    "NoFit": ("at",),
    "NoPrinter": ("word", "maker"),
    "NoTurner": ("word", "maker"),
    "TooWide": ("rooms",),
    "NoRow": (),
    "Nought": (),
    "NotKept": ("name",),
    "NoBox": ("box",),
}
BESIDE = {"Nought": ZeroDivisionError, "NotKept": KeyError, "NoBox": IndexError}
OWN = (ValueError, ZeroDivisionError, KeyError, IndexError)
THINGS = (0, 7, -1, "", "name", None, (), [], [1, 2], {}, 10 ** 5000, object())


class TestFields(unittest.TestCase):
    def test_made_by_place(self):
        for name, fields in FIELDS.items():
            for shift in range(len(THINGS)):
                told = [THINGS[(shift + at) % len(THINGS)] for at in range(len(fields))]
                made = getattr(errors, name)(*told)
                for field, thing in zip(fields, told):
                    self.assertIs(getattr(made, field), thing, (name, field))

    def test_made_by_name(self):
        for name, fields in FIELDS.items():
            for shift in range(len(THINGS)):
                told = {field: THINGS[(shift + at) % len(THINGS)] for at, field in enumerate(fields)}
                made = getattr(errors, name)(**told)
                for field, thing in told.items():
                    self.assertIs(getattr(made, field), thing, (name, field))

    def test_names_in_any_order(self):
        for name in ("NoReader", "NoPrinter", "NoTurner"):
            made = getattr(errors, name)(maker="m", word="w")
            self.assertEqual((made.word, made.maker), ("w", "m"))
        made = errors.NoWood(name="n", word="w")
        self.assertEqual((made.word, made.name), ("w", "n"))

    def test_handed_list_is_kept_as_it_is(self):
        rows = [1]
        made = errors.NoText(rows)
        rows.append(2)
        self.assertIs(made.row, rows)
        self.assertEqual(made.row, [1, 2])

    def test_two_of_a_kind_keep_their_own(self):
        first, second = errors.NoText(1), errors.NoText(2)
        self.assertEqual((first.row, second.row), (1, 2))


class TestFamilies(unittest.TestCase):
    def test_the_first_is_a_value_error(self):
        self.assertEqual(errors.BoughError.__bases__, (ValueError,))

    def test_what_each_is_beneath(self):
        for name in FIELDS:
            made = getattr(errors, name)
            with self.subTest(name):
                if name in BESIDE:
                    self.assertFalse(issubclass(made, errors.BoughError))
                    self.assertEqual([own for own in OWN if issubclass(made, own)], [BESIDE[name]])
                else:
                    self.assertTrue(issubclass(made, errors.BoughError))
                    self.assertEqual([own for own in OWN if issubclass(made, own)], [ValueError])

    def test_none_beneath_another(self):
        for name in FIELDS:
            for other in FIELDS:
                if name != other:
                    self.assertFalse(issubclass(getattr(errors, name), getattr(errors, other)), (name, other))
            self.assertFalse(issubclass(errors.BoughError, getattr(errors, name)), name)

    def test_raised_and_caught(self):
        for name, fields in FIELDS.items():
            made = getattr(errors, name)
            with self.assertRaises(BESIDE.get(name, errors.BoughError)) as caught:
                raise made(*fields)
            self.assertIs(type(caught.exception), made)
            self.assertEqual([getattr(caught.exception, field) for field in fields], list(fields))
            self.assertIsInstance(str(caught.exception), str)


if __name__ == "__main__":
    unittest.main()
