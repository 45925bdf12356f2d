"""[3] and the interface: the refusals."""

import unittest

from growjoin import errors
from growjoin.errors import (
    Busy, Fallen, JoinError, NoDeed, NoHand, NoHands, NoKind, NoLetter, NoText, NoWorth, TooLong,
)
from helper import ODD

BARE = [NoKind, NoHands, NoWorth, NoText]
WITH_FIELD = [
    (NoHand, "hand"), (Fallen, "hand"), (NoLetter, "number"), (TooLong, "most"), (Busy, "hand"), (NoDeed, "deed"),
]
ALL = BARE + [found for found, field in WITH_FIELD]


class Errors(unittest.TestCase):
    def test_there_are_ten(self):
        self.assertEqual(len(set(ALL)), 10)
        own = [thing for thing in vars(errors).values() if isinstance(thing, type)]
        self.assertEqual(set(own), set(ALL) | {JoinError})

    def test_join_error_is_a_value_error(self):
        self.assertEqual(JoinError.__bases__, (ValueError,))

    def test_each_stands_straight_under_join_error(self):
        for found in ALL:
            self.assertEqual(found.__bases__, (JoinError,))

    def test_bare_ones_are_made_with_nothing(self):
        for found in BARE:
            self.check_made(found())

    def test_fields_are_what_was_handed_in(self):
        for found, field in WITH_FIELD:
            for thing in [0, 7, -1, True, "a", (1, 2), 10 ** 5000, *ODD]:
                error = found(thing)
                self.assertIs(getattr(error, field), thing)
                self.check_made(error)

    def test_they_can_be_raised_and_shown(self):
        for found, field in WITH_FIELD:
            for thing in [3, 10 ** 5000, *ODD]:
                with self.assertRaises(found) as caught:
                    raise found(thing)
                self.assertIsInstance(str(caught.exception), str)
                self.assertIsInstance(repr(caught.exception), str)

    def check_made(self, error):
        self.assertIsInstance(error, JoinError)
        self.assertIsInstance(error, ValueError)
        self.assertEqual([found for found in ALL if isinstance(error, found)], [type(error)])


if __name__ == "__main__":
    unittest.main()
