"""Point [26]: a set of ties is parted into a round and a cut, or is odd with a double."""

import unittest

from threewebs.doubles import double_by
from threewebs.nets import ties_of
from threewebs.othernet import other_net
from threewebs.parting import parted
from threewebs.sets import cut_of
from threewebs.spanning import round_by, tree_of
from threewebs.walkers import walkers_of

import samples
from samples import ALL, BARE, DENSE, FOURS, LARGE, LOOP, MANY, MIXED, TIE, TRIANGLE, TRIPLE, TWINS, WOVEN

# All sets of ties of these are asked.
FEW = [rows for rows in MANY + WOVEN if len(ties_of(rows)) <= 7]
WIDE = ALL + WOVEN + DENSE


def some_ties(rows, seed):
    dice = samples.Dice(seed)
    return [tie for tie in ties_of(rows) if dice.throw(2)]


def some_round(rows, seed):
    """A sum of some rounds by a tree."""
    dice = samples.Dice(seed)
    tree = tree_of(rows)
    rest = [tie for tie in ties_of(rows) if tie not in tree and dice.throw(2)]
    return samples.slow_sum([round_by(rows, tree, tie) for tie in rest])


def some_cut(rows, seed):
    dice = samples.Dice(seed)
    return cut_of(rows, sorted(point for point, ties in rows if dice.throw(2)))


def common(one, other):
    return len(set(one) & set(other))


class Parted(unittest.TestCase):
    def check(self, rows, some):
        """What is told is as the words of [26] want it; told is the first word."""
        told = parted(rows, list(some))
        self.assertIs(type(told), tuple)
        for each in told[1:]:
            self.assertIs(type(each), list)
            self.assertEqual(each, sorted(set(each)))
        if told[0] == "odd":
            self.assertEqual(len(told), 2)
            self.assertTrue(samples.slow_is_round(rows, told[1]), (rows, some))
            self.assertTrue(samples.slow_is_cut(rows, told[1]), (rows, some))
            self.assertEqual(common(told[1], some) % 2, 1, (rows, some))
        else:
            self.assertEqual([told[0], len(told)], ["parts", 3])
            self.assertTrue(samples.slow_is_round(rows, told[1]), (rows, some))
            self.assertTrue(samples.slow_is_cut(rows, told[2]), (rows, some))
            self.assertEqual(samples.slow_sum(told[1:]), list(some))
        return told[0]

    def test_the_bare_point(self):
        self.assertEqual(parted(BARE, []), ("parts", [], []))

    def test_a_loop_alone_and_a_bridge_alone(self):
        self.assertEqual(parted(LOOP, ["x"]), ("parts", ["x"], []))
        self.assertEqual(parted(LOOP, []), ("parts", [], []))
        self.assertEqual(parted(TIE, ["x"]), ("parts", [], ["x"]))
        self.assertEqual(parted(TIE, []), ("parts", [], []))

    def test_twin_ties(self):
        self.assertEqual(parted(TWINS, ["x"]), ("odd", ["x", "y"]))
        self.assertEqual(parted(TWINS, ["y"]), ("odd", ["x", "y"]))
        self.assertIn(parted(TWINS, ["x", "y"]), [("parts", ["x", "y"], []), ("parts", [], ["x", "y"])])

    def test_where_there_is_one_way_alone(self):
        # With one walker there is no double but the empty one, and each set is parted in one way.
        self.assertEqual(parted(TRIPLE, ["x"]), ("parts", ["y", "z"], ["x", "y", "z"]))
        self.assertEqual(parted(TRIPLE, ["x", "y"]), ("parts", ["x", "y"], []))
        self.assertEqual(parted(TRIPLE, ["x", "y", "z"]), ("parts", [], ["x", "y", "z"]))
        self.assertEqual(parted(TRIANGLE, ["ab"]), ("parts", ["ab", "ac", "bc"], ["ac", "bc"]))
        self.assertEqual(parted(MIXED, ["x"]), ("odd", ["x", "y"]))
        self.assertEqual(parted(MIXED, ["l", "y"]), ("odd", ["x", "y"]))

    def test_each_set_of_ties_and_never_both_ways(self):
        for rows in FEW:
            cuts = [list(cut) for cut in samples.slow_sides(rows)]
            sets = list(samples.subsets(ties_of(rows)))
            rounds = [some for some in sets if samples.slow_is_round(rows, some)]
            doubles = [some for some in rounds if some in cuts]
            sums = {tuple(samples.slow_sum([one, other])) for one in rounds for other in cuts}
            for some in sets:
                odd = any(common(some, double) % 2 for double in doubles)
                self.assertNotEqual(odd, tuple(some) in sums)
                self.assertEqual(self.check(rows, some), "odd" if odd else "parts", (rows, some))

    def test_sums_of_a_round_and_a_cut_are_parted(self):
        for rows in WIDE:
            for seed in range(3):
                some = samples.slow_sum([some_round(rows, seed), some_cut(rows, seed)])
                self.assertEqual(self.check(rows, some), "parts")

    def test_rounds_cuts_and_doubles_are_parted(self):
        for rows in WIDE:
            walkers = range(len(walkers_of(rows)))
            for some in [some_round(rows, 5), some_cut(rows, 5), double_by(rows, list(walkers)[1::2]), []]:
                self.assertEqual(self.check(rows, some), "parts")

    def test_sets_of_larger_nets(self):
        words = []
        for rows in WIDE:
            for seed in range(3):
                words.append(self.check(rows, some_ties(rows, seed)))
            words.append(self.check(rows, ties_of(rows)))
        self.assertEqual(set(words), {"odd", "parts"})

    def test_with_one_walker_each_set_is_parted(self):
        for rows in WIDE:
            if len(walkers_of(rows)) == 1:
                for seed in range(3):
                    self.assertEqual(self.check(rows, some_ties(rows, seed)), "parts")

    def test_forty_ties_and_many_walkers(self):
        rows = samples.chain(20)
        self.assertEqual(len(walkers_of(rows)), 21)
        for tie in ties_of(rows):
            self.assertEqual(self.check(rows, [tie]), "odd")
        self.assertEqual(self.check(rows, ["t3", "u3"]), "parts")
        self.assertEqual(self.check(rows, ["t0", "t9", "u0", "u9"]), "parts")
        self.assertEqual(self.check(rows, ["t0", "t1", "u0"]), "odd")

    def test_all_ties_are_parted(self):
        # A double has an even number of ties, as it has an even number in common with itself.
        for rows in WIDE:
            self.assertEqual(self.check(rows, ties_of(rows)), "parts")

    def test_of_the_other_net_the_parts_may_be_exchanged(self):
        for rows in MANY + LARGE[:4] + DENSE:
            other = other_net(rows)
            some = some_ties(rows, 9)
            told = parted(rows, some)
            self.assertEqual(self.check(other, some), told[0])
            if told[0] == "parts":
                self.assertTrue(samples.slow_is_cut(other, told[1]))
                self.assertTrue(samples.slow_is_round(other, told[2]))

    def test_nothing_handed_in_is_changed_and_answers_are_the_askers_own(self):
        for rows in MANY + WOVEN + DENSE[:3]:
            for some in [[], ties_of(rows), some_ties(rows, 4), some_round(rows, 4), some_cut(rows, 4)]:
                samples.check_own(self, parted, samples.fresh(rows), list(some))
        samples.check_own(self, parted, samples.fresh(FOURS), ["ab"])


if __name__ == "__main__":
    unittest.main()
