"""Point [28]: the number of trees; and what [3] and [35] say of it."""

import unittest

from threewebs.counting import tree_count
from threewebs.nets import ties_of
from threewebs.othernet import other_net
from threewebs.walkers import walkers_of

import samples
from samples import ALL, BARE, BESIDE, BRIDGED, DEEP, DENSE, FOURS, LARGE, LOOP, MANY, MIXED, TIE
from samples import TRIANGLE, TRIPLE, TWINS, WITHIN, WOVEN

WIDE = ALL + WOVEN + DENSE


def taken_out(rows, tie):
    return [(point, [each for each in ties if each != tie]) for point, ties in rows]


def shrunk(rows, tie):
    """As far as trees go the order round a point is all one."""
    one, other = samples.slow_points(rows, tie)
    lists = dict(taken_out(rows, tie))
    lists[one] = lists[one] + lists.pop(other)
    return list(lists.items())


class Counting(unittest.TestCase):
    def test_the_bare_point_a_loop_a_bridge_and_twins(self):
        self.assertEqual(tree_count(BARE), 1)
        self.assertEqual(tree_count(LOOP), 1)
        self.assertEqual(tree_count(TIE), 1)
        self.assertEqual(tree_count(TWINS), 2)

    def test_small_nets(self):
        self.assertEqual([tree_count(rows) for rows in [TRIPLE, TRIANGLE, FOURS]], [3, 3, 16])
        self.assertEqual([tree_count(rows) for rows in [WITHIN, BESIDE, DEEP, MIXED]], [1, 1, 1, 2])
        self.assertEqual(tree_count(BRIDGED), 9)
        self.assertEqual(tree_count(samples.theta([1, 3, 10])), 43)

    def test_a_whole_number(self):
        for rows in WIDE:
            self.assertIs(type(tree_count(rows)), int)
            self.assertGreaterEqual(tree_count(rows), 1)

    def test_a_loop_is_in_no_tree(self):
        for rows in MANY + WOVEN + DENSE:
            point, ties = rows[0]
            self.assertEqual(tree_count([(point, ["newloop", "newloop"] + ties)] + rows[1:]), tree_count(rows))

    def test_a_bridge_is_in_each_tree(self):
        for rows in MANY + WOVEN + DENSE:
            point, ties = rows[0]
            longer = [(point, ["newtie"] + ties)] + rows[1:] + [("newpoint", ["newtie"])]
            self.assertEqual(tree_count(longer), tree_count(rows))

    def test_twins_make_different_trees(self):
        for many in range(1, 41):
            self.assertEqual(tree_count(samples.twins(many)), many)
        for many in range(1, 21):
            self.assertEqual(tree_count(samples.chain(many)), 2 ** many)

    def test_rings_wheels_ladders_and_grids(self):
        for many in range(1, 41):
            self.assertEqual(tree_count(samples.ring(many)), many)
        self.assertEqual([tree_count(samples.wheel(many)) for many in range(3, 8)], [16, 45, 121, 320, 841])
        self.assertEqual(tree_count(samples.wheel(20)), 228826125)
        self.assertEqual([tree_count(samples.ladder(many)) for many in range(1, 7)], [1, 4, 15, 56, 209, 780])
        self.assertEqual(tree_count(samples.ladder(14)), 29354524)
        self.assertEqual([tree_count(samples.grid(k, k)) for k in range(1, 6)], [1, 4, 192, 100352, 557568000])

    def test_one_tree_alone(self):
        for rows in [samples.star(40), samples.path(40), samples.loops_within(40), samples.loops_beside(40)]:
            self.assertEqual(tree_count(rows), 1)

    def test_as_many_as_are_found_one_by_one(self):
        for rows in MANY + WOVEN:
            self.assertEqual(tree_count(rows), len(samples.slow_trees(rows)))

    def test_as_counted_tie_by_tie(self):
        for rows in MANY + WOVEN + DENSE + LARGE:
            self.assertEqual(tree_count(rows), samples.slow_tree_count(rows))

    def test_whatever_row_comes_first(self):
        for rows in WIDE:
            for cut in [1, len(rows) // 2]:
                self.assertEqual(tree_count(rows[cut:] + rows[:cut]), tree_count(rows))
            self.assertEqual(tree_count(rows[::-1]), tree_count(rows))

    def test_odd_just_where_there_is_but_one_walker_or_no_tie(self):
        for rows in WIDE:
            self.assertEqual(tree_count(rows) % 2 == 1, len(walkers_of(rows)) < 2)
            self.assertEqual(len(walkers_of(rows)) == 0, not ties_of(rows))

    def test_the_other_net_has_as_many(self):
        for rows in WIDE:
            self.assertEqual(tree_count(other_net(rows)), tree_count(rows))

    def test_with_a_tie_taken_out_and_with_it_shrunk(self):
        for rows in MANY + WOVEN + DENSE + LARGE[:5] + [samples.wheel(20), samples.grid(5, 5), samples.chain(20)]:
            for tie in ties_of(rows):
                one, other = samples.slow_points(rows, tie)
                rest = [each for each in ties_of(rows) if each != tie]
                if one != other and samples.slow_groups(rows, rest) == 1:
                    both = tree_count(taken_out(rows, tie)) + tree_count(shrunk(rows, tie))
                    self.assertEqual(tree_count(rows), both)

    def test_nothing_handed_in_is_changed(self):
        for rows in ALL:
            samples.check_own(self, tree_count, samples.fresh(rows))


if __name__ == "__main__":
    unittest.main()
