"""Point [4]: what a name is."""

import unittest

from threewebs.names import is_name

LETTERS = "abcdefghijklmnopqrstuvwxyz"
FIGURES = "0123456789"
GOOD = LETTERS + FIGURES
PERCENT = chr(37)
WRONG = [chr(code) for code in range(32, 127) if chr(code) not in GOOD and chr(code) != PERCENT]
FILLER = "a0z9m5k3"


def with_sign(long, place, sign):
    return FILLER[:place] + sign + FILLER[place + 1:long]


class Names(unittest.TestCase):
    def answers(self, thing, truth):
        self.assertIs(is_name(thing), truth, repr(thing))
        self.assertIs(is_name(thing), truth, repr(thing))

    def test_one_sign(self):
        for sign in GOOD:
            self.answers(sign, True)

    def test_eight_signs_each_sign_at_each_place(self):
        for sign in GOOD:
            for place in range(8):
                self.answers(with_sign(8, place, sign), True)

    def test_eight_times_one_sign(self):
        for sign in GOOD:
            self.answers(sign * 8, True)

    def test_each_length_between(self):
        for long in range(1, 9):
            self.answers(FILLER[:long], True)
            self.answers(LETTERS[:long], True)
            self.answers(FIGURES[:long], True)

    def test_no_sign(self):
        self.answers("", False)

    def test_too_long(self):
        for long in [9, 10, 16, 17, 100, 256, 264, 300, 4000]:
            self.answers("a" * long, False)
            self.answers("7" * long, False)
        self.answers("abcd56789", False)

    def test_there_are_wrong_signs(self):
        self.assertEqual(len(WRONG), 95 - 36 - 1)
        for sign in " AZ_-.:;/@[`{~":
            self.assertIn(sign, WRONG)

    def test_one_wrong_sign_at_each_place(self):
        for sign in WRONG:
            for long in range(1, 9):
                for place in range(long):
                    self.answers(with_sign(long, place, sign), False)

    def test_blanks(self):
        for text in [" ", "        ", " a", "a ", "a b", " abcdefg", "abcdefg ", "abc defg"]:
            self.answers(text, False)

    def test_a_name_within_a_text_too_long(self):
        for text in ["abcdefgh ", " abcdefgh", "a: x y x; b: y"]:
            self.answers(text, False)

    def test_none_and_truths(self):
        for thing in [None, True, False]:
            self.answers(thing, False)

    def test_whole_numbers(self):
        for thing in [0, 1, 7, -1, -12345678, 12345678, int("7" * 60), -int("7" * 60), 10 ** 299]:
            self.answers(thing, False)

    def test_lists_and_tuples(self):
        for items in [[], ["a"], ["abcdefgh"], ["a", "b"], ["a", "b", "c", "d"], [0], [None], [["a"]]]:
            self.answers(items, False)
            self.answers(tuple(items), False)

    def test_nothing_handed_in_is_changed(self):
        items = ["a", ["b", "c"]]
        self.answers(items, False)
        self.assertEqual(items, ["a", ["b", "c"]])


if __name__ == "__main__":
    unittest.main()
