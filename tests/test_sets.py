"""Points [13] to [16]: sums, rounds and cuts."""

import itertools
import unittest

from threewebs.faces import faces_of
from threewebs.nets import points_of, tie_at, ties_of
from threewebs.othernet import other_net
from threewebs.sets import cut_of, is_round, side_of, summed

import samples
from samples import ALL, BARE, BIG, BRIDGED, DEEP, FOURS, LARGE, LOOP, MANY, MIXED, SMALL, TIE, TRIANGLE, TRIPLE, TWINS

# All sets of ties of these are asked.
FEW = [rows for rows in MANY if len(ties_of(rows)) <= 7]


def some_points(rows, seed):
    dice = samples.Dice(seed)
    return sorted(point for point in points_of(rows) if dice.throw(2))


def all_rounds(rows):
    return [some for some in samples.subsets(ties_of(rows)) if samples.slow_is_round(rows, some)]


def all_cuts(rows):
    return [list(cut) for cut in samples.slow_sides(rows)]


class Sums(unittest.TestCase):
    def test_what_is_in_just_one(self):
        self.assertEqual(summed(["a", "b"], ["b", "c"]), ["a", "c"])
        self.assertEqual(summed(["c", "d"], ["a", "b"]), ["a", "b", "c", "d"])
        self.assertEqual(summed(["a", "b", "c"], ["b"]), ["a", "c"])
        self.assertEqual(summed(["b"], ["a", "b", "c"]), ["a", "c"])

    def test_a_set_and_itself(self):
        for some in [[], ["a"], ["10", "9", "a", "ab", "b"]]:
            self.assertEqual(summed(some, list(some)), [])
            self.assertEqual(summed(some, some), [])

    def test_a_set_and_the_set_without_ties(self):
        for some in [[], ["a"], ["10", "9", "a", "ab", "b"]]:
            self.assertEqual(summed(some, []), some)
            self.assertEqual(summed([], some), some)

    def test_sorted_as_python_sorts_texts(self):
        self.assertEqual(summed(["9", "a"], ["10", "ab"]), ["10", "9", "a", "ab"])
        self.assertEqual(summed(["ab", "b"], ["a", "abc", "z9"]), ["a", "ab", "abc", "b", "z9"])

    def test_all_pairs_of_small_sets(self):
        for one, other in itertools.product(samples.subsets("abcd"), repeat=2):
            self.assertEqual(summed(one, other), sorted(tie for tie in "abcd" if (tie in one) != (tie in other)))

    def test_forty_ties(self):
        ties = ties_of(samples.star(40))
        self.assertEqual(summed(ties[:30], ties[10:]), ties[:10] + ties[30:])

    def test_answers_are_the_askers_own(self):
        for one, other in [([], []), (["a"], []), ([], ["a"]), (["a", "b"], ["b", "c"]), (["a"], ["a"])]:
            samples.check_own(self, summed, one, other)


class Rounds(unittest.TestCase):
    def test_the_set_without_ties(self):
        for rows in ALL:
            self.assertIs(is_round(rows, []), True)

    def test_loops(self):
        self.assertIs(is_round(LOOP, ["x"]), True)
        self.assertIs(is_round(MIXED, ["l"]), True)
        self.assertIs(is_round(DEEP, ["k", "m"]), True)
        self.assertIs(is_round(samples.loops_within(40), ties_of(samples.loops_within(40))), True)

    def test_twins(self):
        self.assertIs(is_round(TWINS, ["x", "y"]), True)
        self.assertIs(is_round(MIXED, ["l", "x", "y"]), True)
        self.assertIs(is_round(TRIPLE, ["x", "z"]), True)

    def test_a_point_with_an_odd_number_of_ends(self):
        self.assertIs(is_round(TIE, ["x"]), False)
        self.assertIs(is_round(TWINS, ["x"]), False)
        self.assertIs(is_round(TRIPLE, ["x", "y", "z"]), False)
        self.assertIs(is_round(TRIANGLE, ["ab", "ac"]), False)
        self.assertIs(is_round(MIXED, ["l", "s"]), False)
        self.assertIs(is_round(BRIDGED, ["a", "p", "q", "r"]), False)

    def test_all_sets_of_ties_of_small_nets(self):
        for rows in FEW:
            for some in samples.subsets(ties_of(rows)):
                self.assertIs(is_round(rows, some), samples.slow_is_round(rows, some), (rows, some))

    def test_the_ties_once_in_a_face(self):
        for rows in ALL:
            for face in faces_of(rows):
                names = [tie_at(rows, end) for end in face]
                self.assertIs(is_round(rows, sorted(tie for tie in names if names.count(tie) == 1)), True)


class Cuts(unittest.TestCase):
    def test_no_points_and_all_points(self):
        for rows in ALL:
            self.assertEqual(cut_of(rows, []), [])
            self.assertEqual(cut_of(rows, sorted(points_of(rows))), [])

    def test_one_point(self):
        self.assertEqual(cut_of(TIE, ["a"]), ["x"])
        self.assertEqual(cut_of(TIE, ["b"]), ["x"])
        self.assertEqual(cut_of(FOURS, ["d"]), ["ad", "bd", "cd"])
        self.assertEqual(cut_of(samples.star(40), ["hub"]), ties_of(samples.star(40)))
        for rows in ALL:
            for point, ties in rows:
                self.assertEqual(cut_of(rows, [point]), sorted(tie for tie in ties if ties.count(tie) == 1))

    def test_loops_are_in_no_cut(self):
        self.assertEqual(cut_of(LOOP, ["a"]), [])
        self.assertEqual(cut_of(MIXED, ["a"]), ["x", "y"])
        self.assertEqual(cut_of(MIXED, ["b", "s"]), ["x", "y"])

    def test_several_points(self):
        self.assertEqual(cut_of(FOURS, ["a", "c"]), ["ab", "ad", "bc", "cd"])
        self.assertEqual(cut_of(FOURS, ["a", "b", "c"]), ["ad", "bd", "cd"])
        self.assertEqual(cut_of(BRIDGED, ["a", "b", "c"]), ["a"])
        for rows in FEW:
            for points in samples.subsets(points_of(rows)):
                self.assertEqual(cut_of(rows, points), samples.slow_cut(rows, points))
        for rows in BIG + LARGE:
            points = some_points(rows, 5)
            self.assertEqual(cut_of(rows, points), samples.slow_cut(rows, points))

    def test_the_bare_point(self):
        self.assertEqual(cut_of(BARE, []), [])
        self.assertEqual(cut_of(BARE, ["a"]), [])
        self.assertEqual(side_of(BARE, []), [])

    def test_sides_are_without_the_point_of_the_first_row(self):
        self.assertEqual(side_of(TIE, ["x"]), ["b"])
        self.assertEqual(side_of(TIE[::-1], ["x"]), ["a"])
        self.assertEqual(side_of(FOURS, ["ad", "bd", "cd"]), ["a", "b", "c"])
        self.assertEqual(side_of(FOURS, ["ab", "ad", "bc", "cd"]), ["a", "c"])
        self.assertEqual(side_of(BRIDGED, ["a"]), ["0", "9", "point001"])
        self.assertEqual(side_of(BRIDGED[::-1], ["a"]), ["a", "b", "c"])

    def test_the_set_without_ties_has_the_side_without_points(self):
        for rows in ALL:
            self.assertEqual(side_of(rows, []), [])

    def test_a_set_that_is_no_cut_has_no_side(self):
        self.assertIsNone(side_of(LOOP, ["x"]))
        self.assertIsNone(side_of(TWINS, ["x"]))
        self.assertIsNone(side_of(TRIANGLE, ["ab"]))
        self.assertIsNone(side_of(TRIANGLE, ["ab", "ac", "bc"]))
        self.assertIsNone(side_of(MIXED, ["l", "x", "y"]))
        self.assertIsNone(side_of(samples.ring(40), ["t7"]))

    def test_all_sets_of_ties_of_small_nets(self):
        for rows in FEW:
            sides = samples.slow_sides(rows)
            for some in samples.subsets(ties_of(rows)):
                self.assertEqual(side_of(rows, some), sides.get(tuple(some)), (rows, some))

    def test_cuts_and_sides_of_larger_nets(self):
        for rows in BIG + LARGE:
            for seed in range(5):
                points = some_points(rows, seed)
                if rows[0][0] in points:
                    points = sorted(set(points_of(rows)) - set(points))
                self.assertEqual(side_of(rows, cut_of(rows, points)), points)

    def test_nothing_handed_in_is_changed_and_answers_are_the_askers_own(self):
        for rows in MANY:
            points = some_points(rows, 3)
            samples.check_own(self, cut_of, samples.fresh(rows), points)
            points = some_points(rows, 3)
            samples.check_own(self, side_of, samples.fresh(rows), cut_of(rows, points))
            samples.check_own(self, side_of, samples.fresh(rows), ties_of(rows))
            samples.check_own(self, is_round, samples.fresh(rows), ties_of(rows))


class SumsOfRoundsAndCuts(unittest.TestCase):
    def test_sums_of_rounds_are_rounds(self):
        for rows in SMALL:
            rounds = all_rounds(rows)
            for one, other in itertools.product(rounds, repeat=2):
                self.assertIs(is_round(rows, summed(one, other)), True)

    def test_sums_of_cuts_are_cuts(self):
        for rows in SMALL:
            cuts = all_cuts(rows)
            for one, other in itertools.product(cuts, repeat=2):
                self.assertIsNotNone(side_of(rows, summed(one, other)))

    def test_a_set_is_a_round_just_where_it_is_even_with_each_cut(self):
        for rows in SMALL:
            cuts = all_cuts(rows)
            for some in samples.subsets(ties_of(rows)):
                even = all(len(set(some) & set(cut)) % 2 == 0 for cut in cuts)
                self.assertIs(is_round(rows, some), even)

    def test_a_set_is_a_cut_just_where_it_is_even_with_each_round(self):
        for rows in SMALL:
            rounds = all_rounds(rows)
            for some in samples.subsets(ties_of(rows)):
                even = all(len(set(some) & set(each)) % 2 == 0 for each in rounds)
                self.assertIs(side_of(rows, some) is not None, even)

    def test_faces_and_cuts_of_larger_nets(self):
        for rows in BIG + LARGE:
            cut = cut_of(rows, some_points(rows, 9))
            for face in faces_of(rows):
                self.assertEqual(len([end for end in face if tie_at(rows, end) in cut]) % 2, 0)

    def test_the_cuts_of_the_other_net_are_the_rounds_here(self):
        for rows in FEW:
            for some in samples.subsets(ties_of(rows)):
                self.assertIs(side_of(other_net(rows), some) is not None, is_round(rows, some))
                self.assertIs(is_round(other_net(rows), some), side_of(rows, some) is not None)


if __name__ == "__main__":
    unittest.main()
