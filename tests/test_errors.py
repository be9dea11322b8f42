import unittest

from staletags import errors

FIELDLESS = [
    "NoRoom", "NoNumber", "NoTags", "NoDeed", "TooFew", "NotFew", "NoSlip", "NotRight", "NotFree", "Full",
    "NoGiving", "NoNear", "NoPast", "NoText", "NoHands", "NoWay",
]
FIELDS = {
    "BadWeb": "part", "NoRow": "index", "TooMany": "most", "BadFoe": "index", "NotKept": "word",
    "BadProgram": "place", "BadText": "line", "NoWeaving": "place",
}


class ErrorsTest(unittest.TestCase):
    """Point 0.3: the error classes, their base and their fields."""

    def test_base(self):
        self.assertEqual(errors.TagError.__bases__, (ValueError,))

    def test_all_derive_directly(self):
        for name in FIELDLESS + list(FIELDS):
            with self.subTest(name):
                self.assertEqual(getattr(errors, name).__bases__, (errors.TagError,))
                self.assertEqual(getattr(errors, name).__module__, "staletags.errors")

    def test_there_are_no_others(self):
        names = [name for name, thing in vars(errors).items() if isinstance(thing, type)]
        self.assertEqual(sorted(names), sorted(FIELDLESS + list(FIELDS) + ["TagError"]))

    def test_without_fields(self):
        for name in FIELDLESS + ["TagError"]:
            with self.subTest(name):
                made = getattr(errors, name)
                self.assertEqual(vars(made()), {})
                self.assertRaises(TypeError, made, 1)

    def test_with_fields(self):
        for name, field in FIELDS.items():
            with self.subTest(name):
                made = getattr(errors, name)
                for worth in (3, "ties", (0, 1), None):
                    self.assertEqual(vars(made(worth)), {field: worth})
                self.assertRaises(TypeError, made)
                self.assertRaises(TypeError, made, 1, 2)

    def test_can_be_raised_and_caught(self):
        for name, field in FIELDS.items():
            with self.subTest(name):
                with self.assertRaises(errors.TagError) as caught:
                    raise getattr(errors, name)(7)
                self.assertEqual(getattr(caught.exception, field), 7)


if __name__ == "__main__":
    unittest.main()
