"""Point [29]: all trees."""

import unittest

from threewebs.counting import tree_count
from threewebs.errors import NetError, TooMany
from threewebs.nets import ties_of, vet
from threewebs.othernet import other_net
from threewebs.spanning import is_tree
from threewebs.trees import trees_of

import samples
from samples import ALL, BARE, BESIDE, DEEP, DENSE, FOURS, LARGE, LOOP, MANY, MIXED, TIE, TRIANGLE, TRIPLE, TWINS
from samples import WITHIN, WOVEN, hung, ring, theta, twins

# Nets of just three hundred trees, and of a few more.
JUST = [
    hung(ring(15), ring(20)), hung(ring(3), ring(10), ring(10)), hung(twins(15), ring(20)),
    hung(ring(2), twins(2), ring(3), ring(5), twins(5)), hung(twins(15), ring(20), samples.loops_beside(5)),
    hung(samples.path(5), ring(15), twins(20)), hung(ring(2), samples.star(10), ring(15), samples.path(3), ring(10)),
]
MORE = [
    hung(theta([1, 3, 10]), ring(7)), hung(theta([1, 3, 10]), ring(7), samples.star(19)), hung(ring(16), ring(19)),
    samples.ladder(6), samples.wheel(6), samples.wheel(20), samples.grid(5, 5), samples.chain(9), samples.chain(20),
    hung(ring(20), ring(20)),
]
WIDE = ALL + WOVEN + DENSE + JUST


def few_trees(nets):
    return [rows for rows in nets if tree_count(rows) <= 300]


class Trees(unittest.TestCase):
    def test_nets_with_one_tree(self):
        self.assertEqual(trees_of(BARE), [[]])
        self.assertEqual(trees_of(LOOP), [[]])
        self.assertEqual(trees_of(WITHIN), [[]])
        self.assertEqual(trees_of(BESIDE), [[]])
        self.assertEqual(trees_of(TIE), [["x"]])
        self.assertEqual(trees_of(DEEP), [["s"]])

    def test_twin_ties(self):
        self.assertEqual(trees_of(TWINS), [["x"], ["y"]])
        self.assertEqual(trees_of(TRIPLE), [["x"], ["y"], ["z"]])
        self.assertEqual(trees_of(MIXED), [["s", "x"], ["s", "y"]])

    def test_small_nets(self):
        self.assertEqual(trees_of(TRIANGLE), [["ab", "ac"], ["ab", "bc"], ["ac", "bc"]])
        self.assertEqual(trees_of(FOURS), samples.slow_trees(FOURS))
        self.assertEqual(len(trees_of(FOURS)), 16)

    def test_as_found_one_by_one(self):
        for rows in MANY + WOVEN:
            self.assertEqual(trees_of(rows), samples.slow_trees(rows))

    def test_as_many_as_are_counted(self):
        for rows in few_trees(WIDE):
            self.assertEqual(len(trees_of(rows)), tree_count(rows))

    def test_trees_sorted_each_once(self):
        for rows in few_trees(WIDE):
            trees = trees_of(rows)
            self.assertEqual(trees, sorted(trees))
            self.assertEqual(len({tuple(tree) for tree in trees}), len(trees))
            self.assertIs(type(trees), list)
            for tree in trees:
                self.assertIs(type(tree), list)
                self.assertEqual(tree, sorted(set(tree)))
                self.assertIs(is_tree(rows, tree), True)

    def test_sorted_as_texts_are(self):
        self.assertEqual(trees_of(twins(12))[:4], [["t0"], ["t1"], ["t10"], ["t11"]])
        rows = [("a", ["b", "9", "aa", "a"]), ("b", ["a", "aa", "9", "b"])]
        self.assertEqual(trees_of(rows), [["9"], ["a"], ["aa"], ["b"]])

    def test_nets_of_forty_ties(self):
        for rows in [samples.star(40), samples.path(40)]:
            self.assertEqual(trees_of(rows), [ties_of(rows)])
        for rows in [samples.loops_within(40), samples.loops_beside(40)]:
            self.assertEqual(trees_of(rows), [[]])
        names = ties_of(twins(40))
        self.assertEqual(trees_of(twins(40)), [[name] for name in names])
        self.assertEqual(trees_of(ring(40)), sorted([each for each in names if each != name] for name in names))
        for rows in LARGE:
            self.assertEqual(len(trees_of(rows)), samples.slow_tree_count(rows))

    def test_just_three_hundred_are_told(self):
        for rows in JUST:
            self.assertIs(vet(rows), True)
            self.assertEqual(tree_count(rows), 300)
            self.assertEqual(len(trees_of(rows)), 300)

    def test_more_are_refused(self):
        self.assertEqual([tree_count(rows) for rows in MORE[:3]], [301, 301, 304])
        for rows in MORE:
            self.assertIs(vet(rows), True)
            self.assertGreater(tree_count(rows), 300)
            for taken in [TooMany, NetError, ValueError]:
                with self.assertRaises(taken) as kept:
                    trees_of(rows)
                self.assertIs(type(kept.exception), TooMany)

    def test_refused_just_where_more_are_counted(self):
        for rows in WIDE:
            if tree_count(rows) > 300:
                with self.assertRaises(TooMany):
                    trees_of(rows)
            else:
                trees_of(rows)

    def test_the_trees_of_the_other_net_are_what_trees_leave(self):
        for rows in few_trees(WIDE):
            rests = [[tie for tie in ties_of(rows) if tie not in tree] for tree in trees_of(rows)]
            self.assertEqual(trees_of(other_net(rows)), sorted(rests))

    def test_nothing_handed_in_is_changed_and_answers_are_the_askers_own(self):
        for rows in few_trees(MANY + WOVEN + LARGE + JUST):
            samples.check_own(self, trees_of, samples.fresh(rows))


if __name__ == "__main__":
    unittest.main()
