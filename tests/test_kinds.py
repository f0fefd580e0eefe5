"""Point [27]: the kind of a tie, and what [3] says of kinds."""

import unittest

from threewebs.errors import NetError, NoTie
from threewebs.kinds import kind_of
from threewebs.nets import ties_of
from threewebs.othernet import other_net
from threewebs.walkers import passes_of, walkers_of

import samples
from samples import (
    ALL, BARE, BESIDE, BRIDGED, DEEP, DENSE, FOURS, LOOP, MANY, MIXED, TIE, TRIANGLE, TRIPLE, TWINS, WITHIN, WOVEN,
)

FEW = [rows for rows in MANY + WOVEN if len(ties_of(rows)) <= 7]
WIDE = ALL + WOVEN + DENSE


def word(rows, tie):
    return kind_of(rows, tie)[0]


def words(rows):
    return {tie: word(rows, tie) for tie in ties_of(rows)}


def without(some, tie):
    return [each for each in some if each != tie]


def shows(rows, tie, kind, some):
    """Whether a set of ties that has the tie shows it to be of a kind."""
    rest = without(some, tie)
    if kind == "double":
        return samples.slow_is_round(rows, some) and samples.slow_is_cut(rows, some)
    if kind == "cut":
        return samples.slow_is_cut(rows, some) and samples.slow_is_round(rows, rest)
    return samples.slow_is_round(rows, some) and samples.slow_is_cut(rows, rest)


class Kinds(unittest.TestCase):
    def test_a_loop_alone_and_a_bridge_alone(self):
        self.assertEqual(kind_of(LOOP, "x"), ("round", ["x"]))
        self.assertEqual(kind_of(TIE, "x"), ("cut", ["x"]))

    def test_twin_ties(self):
        self.assertEqual(kind_of(TWINS, "x"), ("double", ["x", "y"]))
        self.assertEqual(kind_of(TWINS, "y"), ("double", ["x", "y"]))

    def test_small_nets(self):
        for tie in "xyz":
            self.assertEqual(kind_of(TRIPLE, tie), ("cut", ["x", "y", "z"]))
        for tie in ["ab", "ac", "bc"]:
            self.assertEqual(kind_of(TRIANGLE, tie), ("round", ["ab", "ac", "bc"]))
        self.assertEqual(words(MIXED), {"l": "round", "s": "cut", "x": "double", "y": "double"})
        self.assertEqual(set(words(FOURS).values()), {"double"})
        self.assertEqual(words(DEEP), {"k": "round", "l": "round", "m": "round", "s": "cut"})
        self.assertEqual(kind_of(BRIDGED, "a"), ("cut", ["a"]))
        for rows in [WITHIN, BESIDE]:
            self.assertEqual([kind_of(rows, tie) for tie in "kl"], [("round", ["k"]), ("round", ["l"])])

    def test_nets_of_forty_ties(self):
        self.assertEqual(set(words(samples.star(40)).values()), {"cut"})
        self.assertEqual(set(words(samples.path(40)).values()), {"cut"})
        self.assertEqual(set(words(samples.loops_within(40)).values()), {"round"})
        self.assertEqual(set(words(samples.loops_beside(40)).values()), {"round"})
        self.assertEqual(set(words(samples.chain(20)).values()), {"double"})
        self.assertEqual(set(words(samples.ring(40)).values()), {"double"})
        self.assertEqual(set(words(samples.ring(39)).values()), {"round"})
        self.assertEqual(set(words(samples.twins(40)).values()), {"double"})
        self.assertEqual(set(words(samples.twins(39)).values()), {"cut"})

    def test_the_set_told_shows_the_kind(self):
        for rows in WIDE:
            for tie in ties_of(rows):
                told = kind_of(rows, tie)
                self.assertEqual([type(told), len(told), type(told[1])], [tuple, 2, list])
                self.assertIn(told[0], ["double", "cut", "round"])
                self.assertIn(tie, told[1])
                self.assertEqual(told[1], sorted(set(told[1])))
                self.assertTrue(shows(rows, tie, told[0], told[1]), (rows, tie))

    def test_each_tie_is_of_just_one_kind(self):
        for rows in FEW:
            sets = list(samples.subsets(ties_of(rows)))
            for tie in ties_of(rows):
                having = [some for some in sets if tie in some]
                kinds = [kind for kind in ["double", "cut", "round"]
                         if any(shows(rows, tie, kind, some) for some in having)]
                self.assertEqual(kinds, [word(rows, tie)], (rows, tie))

    def test_by_the_walkers_that_go_along_it(self):
        met = set()
        for rows in WIDE:
            for tie in ties_of(rows):
                (one, left), (other, right) = passes_of(rows, tie)
                wanted = "double" if one != other else "round" if left == right else "cut"
                self.assertEqual(word(rows, tie), wanted, (rows, tie))
                met.add(wanted)
        self.assertEqual(met, {"double", "cut", "round"})

    def test_a_loop_is_of_the_round_kind_and_a_bridge_of_the_cut_kind(self):
        for rows in WIDE:
            for tie in ties_of(rows):
                one, other = samples.slow_points(rows, tie)
                if one == other:
                    self.assertEqual(word(rows, tie), "round")
                elif samples.slow_groups(rows, without(ties_of(rows), tie)) == 2:
                    self.assertEqual(word(rows, tie), "cut")

    def test_with_one_walker_no_tie_is_of_the_double_kind(self):
        for rows in WIDE:
            if len(walkers_of(rows)) == 1:
                self.assertNotIn("double", words(rows).values())
            elif ties_of(rows):
                self.assertIn("double", words(rows).values())

    def test_of_the_other_net_round_and_cut_are_exchanged(self):
        exchanged = {"double": "double", "cut": "round", "round": "cut"}
        for rows in WIDE:
            self.assertEqual(words(other_net(rows)), {tie: exchanged[kind] for tie, kind in words(rows).items()})

    def test_any_other_text_is_refused(self):
        texts = ["", " ", "nope", "X", "x ", " x", "xx", "x y", "abcdefghi", "a" * 4000, "~", "0", "["]
        for rows in MANY:
            for text in texts + [point for point, ties in rows]:
                if text not in ties_of(rows):
                    for taken in [NoTie, NetError, ValueError]:
                        with self.assertRaises(taken) as kept:
                            kind_of(rows, text)
                        self.assertIs(type(kept.exception), NoTie)

    def test_the_bare_point_has_no_tie(self):
        for text in ["a", "x", ""]:
            with self.assertRaises(NoTie):
                kind_of(BARE, text)

    def test_a_point_and_a_tie_of_one_name(self):
        self.assertEqual(kind_of([("a", ["a"]), ("b", ["a"])], "a"), ("cut", ["a"]))

    def test_nothing_handed_in_is_changed_and_answers_are_the_askers_own(self):
        for rows in MANY + DENSE[:2]:
            for tie in ties_of(rows):
                samples.check_own(self, kind_of, samples.fresh(rows), tie)


if __name__ == "__main__":
    unittest.main()
