"""Refusals: their bases and their fields."""

import unittest

from allelse import errors

NAMES = (
    "HasRing", "IsBetter", "NotSettled", "NotKept", "TooMany", "NoName", "Taken", "NoWish", "Full", "Unknown",
    "NoBack", "NoStanding", "NotAsked", "NoHand", "NoBook", "NoBox", "NotYours", "NoWorth", "NoText", "NoLine",
)
FIELDS = {"NotSettled": "why", "Unknown": "name"}


def made(name):
    """An error of the class, made as the document tells."""
    kind = getattr(errors, name)
    return kind(("field", [0])) if name in FIELDS else kind()


class Errors(unittest.TestCase):
    def test_wish_error_stands_under_value_error(self):
        self.assertEqual(errors.WishError.__bases__, (ValueError,))

    def test_each_stands_straight_under_wish_error(self):
        for name in NAMES:
            self.assertEqual(getattr(errors, name).__bases__, (errors.WishError,), name)
            self.assertEqual(getattr(errors, name).__name__, name)

    def test_none_stands_under_another_one(self):
        for name in NAMES:
            for other in NAMES:
                under = issubclass(getattr(errors, name), getattr(errors, other))
                self.assertEqual(under, name == other, (name, other))

    def test_there_are_no_others(self):
        found = [name for name, thing in vars(errors).items() if isinstance(thing, type)]
        self.assertEqual(sorted(found), sorted(NAMES + ("WishError",)))

    def test_each_is_taken_as_a_refusal(self):
        for name in NAMES:
            with self.assertRaises(errors.WishError):
                raise made(name)

    def test_fields_are_what_was_handed_in(self):
        for name, field in FIELDS.items():
            for thing in (None, "abc", ("hangs", [0, 1]), ("tops", (0, 0), 1, [])):
                error = getattr(errors, name)(thing)
                self.assertIs(getattr(error, field), thing)
                self.assertEqual(vars(error), {field: thing})

    def test_two_errors_have_fields_of_their_own(self):
        first, second = errors.Unknown("a"), errors.Unknown(None)
        self.assertEqual((first.name, second.name), ("a", None))

    def test_the_others_have_no_field(self):
        for name in NAMES:
            if name not in FIELDS:
                self.assertEqual(vars(made(name)), {})

    def test_an_error_may_bear_words(self):
        self.assertEqual(str(errors.HasRing("words")), "words")


if __name__ == "__main__":
    unittest.main()
