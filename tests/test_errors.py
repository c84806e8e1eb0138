"""The refusals: each a NoteError with its field, none beneath another one."""

import unittest

from leafround import errors

FIELDS = {
    "NoDeed": "place", "NoAct": "word", "NoRow": "row", "NoCell": "cell", "NoSource": "at", "NoWhy": "word",
    "OtherHand": "hand", "NoParcel": "thing", "NoMoment": "thing", "NoName": "name", "NoHand": "thing",
    "Refused": "place", "NoPatch": "row", "NoHouse": "hand",
}
WORTHS = [
    0, -1, 10 ** 60, 10 ** 5000, True, None, "", "form", "\u00e9\n", (), ("a", 0), [], [["a"], None], {"a": 1}, object(),
]


class Refusals(unittest.TestCase):

    def test_the_field_by_place_and_by_name(self):
        for which, field in FIELDS.items():
            made = getattr(errors, which)
            for worth in WORTHS:
                with self.subTest(which=which):
                    self.assertIs(getattr(made(worth), field), worth)
                    self.assertIs(getattr(made(**{field: worth}), field), worth)

    def test_it_can_be_raised_and_caught_with_its_field(self):
        for which, field in FIELDS.items():
            for caught in (getattr(errors, which), errors.NoteError, ValueError):
                with self.assertRaises(caught) as held:
                    raise getattr(errors, which)(("a", 3))
                self.assertEqual(getattr(held.exception, field), ("a", 3))

    def test_a_field_is_asked_for(self):
        for which in FIELDS:
            with self.assertRaises(TypeError):
                getattr(errors, which)()
            with self.assertRaises(TypeError):
                getattr(errors, which)(1, 2)

    def test_fallen_has_no_field(self):
        with self.assertRaises(errors.NoteError):
            raise errors.Fallen()
        with self.assertRaises(ValueError):
            raise errors.Fallen
        self.assertEqual(vars(errors.Fallen()), {})

    def test_no_other_fields(self):
        for which, field in FIELDS.items():
            self.assertEqual(list(vars(getattr(errors, which)(1))), [field])

    def test_all_stand_right_beneath_one(self):
        self.assertEqual(errors.NoteError.__bases__, (ValueError,))
        for which in [*FIELDS, "Fallen"]:
            made = getattr(errors, which)
            self.assertTrue(issubclass(made, errors.NoteError))
            for other in [*FIELDS, "Fallen"]:
                self.assertEqual(issubclass(made, getattr(errors, other)), which == other)

    def test_each_is_defined_in_its_file(self):
        for which in [*FIELDS, "Fallen", "NoteError"]:
            self.assertEqual(getattr(errors, which).__module__, "leafround.errors")

    def test_worths_handed_in_stay(self):
        worth = [1, [2]]
        errors.NoCell(worth)
        self.assertEqual(worth, [1, [2]])


if __name__ == "__main__":
    unittest.main()
