"""The classes of the refusals, as the interface lists them."""

import unittest

from threewebs import errors
from threewebs.errors import NetError

WORDS = [
    "NoNet", "Broken", "NoPlane", "NoWalker", "NoDouble", "TooMany", "NoTie",
    "NoCorner", "NoFace", "Taken", "Bridge", "Loop", "NoText", "NoRow",
]
CLASSES = [getattr(errors, word) for word in WORDS]


def is_taken(error, by):
    try:
        raise error
    except by:
        return True
    except BaseException:
        return False


class Refusals(unittest.TestCase):
    def test_fourteen_unlike_classes(self):
        self.assertEqual(len(set(CLASSES)), 14)

    def test_classes_bear_their_names(self):
        self.assertEqual([one.__name__ for one in CLASSES], WORDS)

    def test_net_error_straight_under_value_error(self):
        self.assertEqual(NetError.__bases__, (ValueError,))

    def test_each_straight_under_net_error(self):
        for one in CLASSES:
            self.assertEqual(one.__bases__, (NetError,), one)

    def test_each_taken_by_net_error_and_value_error(self):
        for one in CLASSES:
            for by in [one, NetError, ValueError]:
                self.assertTrue(is_taken(one(), by), (one, by))
                self.assertTrue(is_taken(one("some words"), by), (one, by))

    def test_each_taken_by_none_of_the_others(self):
        for one in CLASSES:
            for by in CLASSES:
                if by != one:
                    self.assertFalse(is_taken(one("some words"), by), (one, by))

    def test_net_error_taken_by_none_of_the_fourteen(self):
        self.assertTrue(is_taken(NetError("some words"), ValueError))
        for by in CLASSES:
            self.assertFalse(is_taken(NetError("some words"), by), by)

    def test_a_plain_value_error_is_no_refusal(self):
        self.assertFalse(is_taken(ValueError("some words"), NetError))


if __name__ == "__main__":
    unittest.main()
