"""Point [37]: rows written as texts, and read."""

import itertools
import re
import unittest

from threewebs.errors import NoText
from threewebs.notes import read, shown

import samples
from samples import ALL, BARE, LOOP, MANY, MIXED, TIE, check_refused

# A text that writes rows, told otherwise than the program tells it.
NAME = "[a-z0-9]{1,8}"
ROW = f"{NAME}:( {NAME})*"
GOOD = re.compile(f"{ROW}(; {ROW})*")

# Rows of names that are no net.
NO_NETS = [
    [("a", []), ("a", [])], [("a", ["x"])], [("a", ["x", "x", "x"])], [("a", []), ("b", [])],
    [("a", ["x", "y", "x", "y"])], [("a", []), ("b", ["x"]), ("c", [])], [("12345678", ["abcdefgh", "0"])],
]


class Shown(unittest.TestCase):
    def test_as_in_the_document(self):
        self.assertEqual(shown([("a", ["x", "y", "x"]), ("b", ["y"])]), "a: x y x; b: y")

    def test_small_nets(self):
        self.assertEqual(shown(BARE), "a:")
        self.assertEqual(shown(LOOP), "a: x x")
        self.assertEqual(shown(TIE), "a: x; b: x")
        self.assertEqual(shown(MIXED), "a: x y l l; b: y x s; s: s")

    def test_rows_that_are_no_net(self):
        self.assertEqual([shown(rows) for rows in NO_NETS], [
            "a:; a:", "a: x", "a: x x x", "a:; b:", "a: x y x y", "a:; b: x; c:", "12345678: abcdefgh 0",
        ])

    def test_a_text(self):
        for rows in ALL + NO_NETS:
            self.assertIs(type(shown(rows)), str)
            self.assertIsNotNone(GOOD.fullmatch(shown(rows)))

    def test_nothing_handed_in_is_changed(self):
        for rows in MANY + NO_NETS:
            samples.check_own(self, shown, samples.fresh(rows))


class Read(unittest.TestCase):
    def test_as_in_the_document(self):
        self.assertEqual(read("a: x y x; b: y"), [("a", ["x", "y", "x"]), ("b", ["y"])])
        self.assertEqual(read("a:"), BARE)

    def test_what_was_shown(self):
        for rows in ALL + NO_NETS:
            self.assertEqual(read(shown(rows)), rows)

    def test_kinds(self):
        told = read("a: x x; b:")
        self.assertIs(type(told), list)
        for row in told:
            self.assertEqual([type(row), len(row), type(row[0]), type(row[1])], [tuple, 2, str, list])

    def test_refused(self):
        for text in [
            "", " ", "a", ":", ";", "; ", "a: x; ", "a: x;", "a:;", "a:; ", "; a:", ";a:", "a :", " a:", "a: ", "a:  x",
            "a:x", "a: x  y", "a: x ", " a: x", "a: x;b: y", "a: x ; b: y", "a: x;  b: y", "a: x; ; b: y",
            "a: x;; b: y", ": x", "a: x; : y", "a::", "a:: x", "a: x:", "a: x: y", "a: b: c", "A: x", "a: X", "a: x, y",
            "abcdefghi: x", "a: abcdefghi", "a: x-y", "a: x_y", "a: ~", "x y", "a; b", "a: x; b", "a b: x", "a: x; b y",
            "a: x\n", "\na: x", "a: x\ny", "a:\tx", "net a:", "a: \"x\"", "[('a', [])]", "a: " + "x" * 3997,
            "a" * 4000, " " * 4000, ";" * 4000, "a: x; " * 600,
        ]:
            check_refused(self, NoText, read, text)

    def test_each_short_text(self):
        for many in range(7):
            for signs in itertools.product("a0: ;", repeat=many):
                self.check("".join(signs))

    def test_texts_with_a_sign_put_in_left_out_or_changed(self):
        for text in ["a: x y x; b: y", "a:; b: 12345678; c:", "abcdefgh: z9 z9"]:
            for place in range(len(text) + 1):
                for sign in " :;a0Z~-":
                    self.check(text[:place] + sign + text[place:])
                    self.check(text[:place] + sign + text[place + 1:])
                self.check(text[:place] + text[place + 1:])

    def check(self, text):
        if GOOD.fullmatch(text):
            self.assertEqual(shown(read(text)), text)
        else:
            with self.assertRaises(NoText, msg=text) as kept:
                read(text)
            self.assertIs(type(kept.exception), NoText)

    def test_long_texts(self):
        text = "a:" + " x" * 1999
        self.assertEqual(len(text), 4000)
        self.assertEqual(read(text), [("a", ["x"] * 1999)])
        rows = [("abc", ["x"])] * 500
        self.assertEqual(read(shown(rows)), rows)

    def test_answers_are_the_askers_own(self):
        for rows in MANY + NO_NETS:
            samples.check_own(self, read, shown(rows))


if __name__ == "__main__":
    unittest.main()
