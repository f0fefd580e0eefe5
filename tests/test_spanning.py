"""Point [17]: trees, and the rounds and cuts by them."""

import unittest

from threewebs.nets import points_of, ties_of
from threewebs.sets import is_round, side_of
from threewebs.spanning import cut_by, is_tree, round_by, tree_of

import samples
from samples import ALL, BARE, BRIDGED, DEEP, FOURS, LOOP, MANY, MIXED, TIE, TRIANGLE, TRIPLE, TWINS, WITHIN

# All sets of ties of these are asked.
FEW = [rows for rows in MANY if len(ties_of(rows)) <= 7]


def trees_of(rows):
    return [some for some in samples.subsets(ties_of(rows)) if samples.slow_is_tree(rows, some)]


def another_tree(rows, seed):
    """A tree by ties in another order than the sorted one."""
    dice = samples.Dice(seed)
    ties = sorted(ties_of(rows), key=lambda tie: (dice.throw(1000), tie))
    tree = []
    for tie in ties:
        if samples.slow_groups(rows, tree + [tie]) < samples.slow_groups(rows, tree):
            tree.append(tie)
    return sorted(tree)


class Trees(unittest.TestCase):
    def test_trees_of_small_nets(self):
        self.assertEqual(tree_of(BARE), [])
        self.assertEqual(tree_of(LOOP), [])
        self.assertEqual(tree_of(WITHIN), [])
        self.assertEqual(tree_of(TIE), ["x"])
        self.assertIn(tree_of(TWINS), [["x"], ["y"]])
        self.assertEqual(tree_of(DEEP), ["s"])
        self.assertEqual(tree_of(samples.star(40)), ties_of(samples.star(40)))

    def test_what_is_told_is_a_tree(self):
        for rows in MANY:
            self.assertTrue(samples.slow_is_tree(rows, tree_of(rows)), rows)

    def test_sorted_each_once_and_one_less_than_points(self):
        for rows in ALL:
            tree = tree_of(rows)
            self.assertEqual(tree, sorted(set(tree)))
            self.assertEqual(len(tree), len(rows) - 1)
            self.assertEqual(samples.slow_groups(rows, tree), 1)
            self.assertIs(is_tree(rows, tree), True)

    def test_each_set_of_ties_of_small_nets(self):
        for rows in FEW:
            for some in samples.subsets(ties_of(rows)):
                self.assertIs(is_tree(rows, some), samples.slow_is_tree(rows, some), (rows, some))

    def test_the_bare_point(self):
        self.assertIs(is_tree(BARE, []), True)

    def test_a_tie_more_or_less_is_no_tree(self):
        for rows in ALL:
            for tree in [tree_of(rows), another_tree(rows, 1)]:
                self.assertIs(is_tree(rows, tree), True)
                for tie in ties_of(rows):
                    self.assertIs(is_tree(rows, sorted(set(tree) ^ {tie})), False)

    def test_the_right_number_of_ties_with_a_round_in_it(self):
        self.assertIs(is_tree(FOURS, ["ab", "ac", "bc"]), False)
        self.assertIs(is_tree(FOURS, ["ab", "ac", "ad"]), True)
        self.assertIs(is_tree(BRIDGED, ["00", "a", "p", "q", "r"]), False)
        self.assertIs(is_tree(samples.chain(2), ["t0", "u0"]), False)
        # Here the first row's point is in the round.
        self.assertIs(is_tree(samples.ladder(3), ["d0", "m0", "m1", "u0", "u1"]), False)

    def test_the_right_number_of_ties_with_a_loop_in_it(self):
        self.assertIs(is_tree(LOOP, ["x"]), False)
        self.assertIs(is_tree(DEEP, ["k"]), False)
        self.assertIs(is_tree(MIXED, ["l", "x"]), False)
        self.assertIs(is_tree(MIXED, ["s", "x"]), True)

    def test_nothing_handed_in_is_changed_and_answers_are_the_askers_own(self):
        for rows in MANY:
            samples.check_own(self, tree_of, samples.fresh(rows))
            samples.check_own(self, is_tree, samples.fresh(rows), tree_of(rows))
            samples.check_own(self, is_tree, samples.fresh(rows), ties_of(rows))


class RoundsByTrees(unittest.TestCase):
    def test_of_small_nets(self):
        self.assertEqual(round_by(LOOP, [], "x"), ["x"])
        self.assertEqual(round_by(TWINS, ["x"], "y"), ["x", "y"])
        self.assertEqual(round_by(TWINS, ["y"], "x"), ["x", "y"])
        self.assertEqual(round_by(TRIANGLE, ["ab", "ac"], "bc"), ["ab", "ac", "bc"])
        self.assertEqual(round_by(FOURS, ["ab", "ac", "ad"], "cd"), ["ac", "ad", "cd"])
        self.assertEqual(round_by(FOURS, ["ab", "bc", "cd"], "ad"), ["ab", "ad", "bc", "cd"])
        ties = ties_of(samples.ring(40))
        self.assertEqual(round_by(samples.ring(40), ties[1:], ties[0]), ties)

    def test_a_loop_by_itself(self):
        self.assertEqual(round_by(MIXED, ["s", "x"], "l"), ["l"])
        self.assertEqual(round_by(DEEP, ["s"], "m"), ["m"])
        for tie in ties_of(samples.loops_within(40)):
            self.assertEqual(round_by(samples.loops_within(40), [], tie), [tie])

    def check(self, rows, tree):
        for tie in ties_of(rows):
            if tie not in tree:
                told = round_by(rows, tree, tie)
                self.assertTrue(samples.slow_is_round(rows, told), (rows, tree, tie))
                self.assertIs(is_round(rows, told), True)
                self.assertIn(tie, told)
                self.assertLessEqual(set(told), set(tree) | {tie})
                self.assertEqual(told, sorted(set(told)))

    def test_each_tie_and_each_tree_of_small_nets(self):
        for rows in FEW:
            for tree in trees_of(rows):
                self.check(rows, tree)

    def test_each_tie_of_larger_nets(self):
        for rows in ALL:
            self.check(rows, tree_of(rows))
            self.check(rows, another_tree(rows, 4))

    def test_nothing_handed_in_is_changed_and_answers_are_the_askers_own(self):
        for rows in MANY:
            for tie in ties_of(rows):
                if tie not in tree_of(rows):
                    samples.check_own(self, round_by, samples.fresh(rows), tree_of(rows), tie)


class CutsByTrees(unittest.TestCase):
    def test_of_small_nets(self):
        self.assertEqual(cut_by(TIE, ["x"], "x"), ["x"])
        self.assertEqual(cut_by(TWINS, ["x"], "x"), ["x", "y"])
        self.assertEqual(cut_by(TRIPLE, ["y"], "y"), ["x", "y", "z"])
        self.assertEqual(cut_by(TRIANGLE, ["ab", "ac"], "ab"), ["ab", "bc"])
        self.assertEqual(cut_by(FOURS, ["ab", "bc", "cd"], "bc"), ["ac", "ad", "bc", "bd"])

    def test_a_bridge_by_itself(self):
        self.assertEqual(cut_by(MIXED, ["s", "x"], "s"), ["s"])
        self.assertEqual(cut_by(DEEP, ["s"], "s"), ["s"])
        self.assertEqual(cut_by(BRIDGED, ["00", "a", "p", "q", "zzzzzzz8"], "a"), ["a"])
        for rows in [samples.star(40), samples.path(40)]:
            for tie in ties_of(rows):
                self.assertEqual(cut_by(rows, ties_of(rows), tie), [tie])

    def check(self, rows, tree):
        for tie in tree:
            told = cut_by(rows, tree, tie)
            side = side_of(rows, told)
            self.assertIsNotNone(side, (rows, tree, tie))
            self.assertEqual(samples.slow_cut(rows, side), told)
            self.assertTrue(set(side) < set(points_of(rows)))
            self.assertEqual(set(told) & set(tree), {tie})

    def test_each_tie_and_each_tree_of_small_nets(self):
        for rows in FEW:
            for tree in trees_of(rows):
                self.check(rows, tree)

    def test_each_tie_of_larger_nets(self):
        for rows in ALL:
            self.check(rows, tree_of(rows))
            self.check(rows, another_tree(rows, 8))

    def test_nothing_handed_in_is_changed_and_answers_are_the_askers_own(self):
        for rows in MANY:
            for tie in tree_of(rows):
                samples.check_own(self, cut_by, samples.fresh(rows), tree_of(rows), tie)


if __name__ == "__main__":
    unittest.main()
