"""Points [18] to [21]: walkers, their passes and their cores; and the refusal of [27]."""

import unittest

from threewebs.errors import NetError, NoTie
from threewebs.nets import ends_of, left_of, other_end, right_of, tie_at, ties_of
from threewebs.othernet import other_net
from threewebs.walkers import core_of, passes_of, walkers_of

import samples
from samples import ALL, BARE, BESIDE, BIG, FOURS, LARGE, LOOP, MANY, MIXED, TIE, TRIANGLE, TRIPLE, TWINS, WITHIN


def told(rows):
    """The walkers with each end told as one text."""
    return [[f"{point}{place}" for point, place in walker] for walker in walkers_of(rows)]


def ways(rows):
    """The ties that the walkers go along, in order, each begun and turned where it sorts first."""
    found = []
    for walker in walkers_of(rows):
        names = [tie_at(rows, end) for end in walker]
        both = [names, names[::-1]]
        found.append(min(way[k:] + way[:k] for way in both for k in range(len(names))))
    return sorted(found)


class Walkers(unittest.TestCase):
    def test_the_bare_point_has_none(self):
        self.assertEqual(walkers_of(BARE), [])

    def test_walkers_of_small_nets(self):
        self.assertEqual(told(LOOP), [["a0", "a0"]])
        self.assertEqual(told(TIE), [["a0", "b0"]])
        self.assertEqual(told(TWINS), [["a0", "b0"], ["a1", "b1"]])
        self.assertEqual(told(TRIPLE), [["a0", "b0", "a1", "b2", "a2", "b1"]])
        self.assertEqual(told(TRIANGLE), [["c0", "a0", "b0", "c0", "a0", "b0"]])
        self.assertEqual(told(MIXED), [["a0", "b2", "s0", "b0"], ["a1", "b1", "a3", "a3"]])
        self.assertEqual(told(WITHIN), [["a0", "a0", "a2", "a2"]])
        self.assertEqual(told(BESIDE), [["a0", "a2", "a2", "a0"]])
        self.assertEqual(told(FOURS), [["d0", "c2", "a2", "b1"], ["d1", "b2", "c2", "a1"], ["d2", "a2", "b2", "c1"]])

    def test_nets_with_one_walker_and_with_many(self):
        for rows in [samples.star(40), samples.path(40), samples.loops_within(40), samples.ring(39)]:
            self.assertEqual(len(walkers_of(rows)), 1)
        self.assertEqual(len(walkers_of(samples.ring(40))), 2)
        self.assertEqual(len(walkers_of(samples.grid(5, 5))), 5)
        for many in range(1, 21):
            self.assertEqual(len(walkers_of(samples.chain(many))), many + 1)

    def test_as_reckoned_slowly(self):
        for rows in MANY + LARGE[:4] + [samples.chain(20), samples.grid(5, 5)]:
            self.assertEqual(walkers_of(rows), samples.slow_walkers(rows))

    def test_step_by_step(self):
        for rows in ALL:
            for walker in walkers_of(rows):
                self.assertEqual(len(walker) % 2, 0)
                behind = walker[1:] + walker[:1]
                for step, (end, leaves) in enumerate(zip(walker, behind)):
                    turn = right_of if step % 2 else left_of
                    self.assertEqual(turn(rows, other_end(rows, end)), leaves)
                # It ends as soon as the first step would come again.
                self.assertEqual(len(set(walker[::2])), len(walker[::2]))

    def test_beginnings(self):
        for rows in ALL:
            ends = ends_of(rows)
            gone = set()
            for walker in walkers_of(rows):
                self.assertEqual(walker[0], [end for end in ends if end not in gone][0])
                for end in walker[::2]:
                    gone |= {end, other_end(rows, end)}
            self.assertEqual(gone, set(ends))

    def test_the_way_back_is_a_walk_too(self):
        for rows in MANY:
            for walker in walkers_of(rows):
                back = samples.slow_back(rows, walker)
                self.assertEqual(samples.slow_walk(rows, back[0]), back)
                self.assertFalse(set(back[::2]) & set(walker[::2]))

    def test_each_tie_once_with_a_left_turn_and_once_with_a_right_turn(self):
        for rows in ALL:
            walkers = walkers_of(rows)
            for turn in [0, 1]:
                names = [tie_at(rows, end) for walker in walkers for end in walker[turn::2]]
                self.assertEqual(sorted(names), ties_of(rows))

    def test_lists_of_ends(self):
        for rows in MANY:
            for walker in walkers_of(rows):
                self.assertIs(type(walker), list)
                for end in walker:
                    self.assertEqual([type(end), type(end[0]), type(end[1])], [tuple, str, int])

    def test_the_other_net_has_the_same_walkers(self):
        for rows in ALL:
            self.assertEqual(ways(other_net(rows)), ways(rows))

    def test_answers_are_the_askers_own(self):
        for rows in MANY + BIG:
            samples.check_own(self, walkers_of, samples.fresh(rows))


class Passes(unittest.TestCase):
    def test_passes_of_small_nets(self):
        self.assertEqual(passes_of(LOOP, "x"), [(0, ("a", 0)), (0, ("a", 0))])
        self.assertEqual(passes_of(TIE, "x"), [(0, ("a", 0)), (0, ("b", 0))])
        self.assertEqual(passes_of(TWINS, "x"), [(0, ("a", 0)), (1, ("b", 1))])
        self.assertEqual(passes_of(TWINS, "y"), [(1, ("a", 1)), (0, ("b", 0))])
        self.assertEqual(passes_of(MIXED, "l"), [(1, ("a", 3)), (1, ("a", 3))])
        self.assertEqual(passes_of(MIXED, "s"), [(0, ("s", 0)), (0, ("b", 2))])
        self.assertEqual(passes_of(FOURS, "ac"), [(1, ("c", 2)), (0, ("c", 2))])

    def test_each_tie_as_the_walkers_are_told(self):
        for rows in ALL:
            walkers = walkers_of(rows)
            for tie in ties_of(rows):
                (one, left), (other, right) = passes_of(rows, tie)
                self.assertIn(left, walkers[one][::2])
                self.assertIn(right, walkers[other][1::2])
                self.assertEqual([tie_at(rows, left), tie_at(rows, right)], [tie, tie])

    def test_a_list_of_two_tuples(self):
        for rows in MANY:
            for tie in ties_of(rows):
                passes = passes_of(rows, tie)
                self.assertEqual([type(passes), len(passes)], [list, 2])
                for each in passes:
                    self.assertEqual([type(each), len(each)], [tuple, 2])
                    self.assertEqual([type(each[0]), type(each[1])], [int, tuple])

    def test_any_other_text_is_refused(self):
        texts = ["", " ", "nope", "X", "x ", "xx", "a b", "abcdefghi", "a" * 4000, "0", "l l", "~"]
        for rows in MANY:
            for text in texts + [point for point, ties in rows]:
                if text not in ties_of(rows):
                    for taken in [NoTie, NetError, ValueError]:
                        with self.assertRaises(taken) as kept:
                            passes_of(rows, text)
                        self.assertIs(type(kept.exception), NoTie)

    def test_a_name_of_a_point_and_a_tie_is_not_refused(self):
        self.assertEqual(passes_of([("a", ["a"]), ("b", ["a"])], "a"), [(0, ("a", 0)), (0, ("b", 0))])

    def test_answers_are_the_askers_own(self):
        for rows in MANY:
            for tie in ties_of(rows):
                samples.check_own(self, passes_of, samples.fresh(rows), tie)


class Cores(unittest.TestCase):
    def test_cores_of_small_nets(self):
        self.assertEqual(core_of(TWINS, walkers_of(TWINS)[0]), ["x", "y"])
        self.assertEqual(core_of(MIXED, walkers_of(MIXED)[0]), ["x", "y"])
        self.assertEqual([core_of(FOURS, walker) for walker in walkers_of(FOURS)],
                         [["ab", "ac", "bd", "cd"], ["ac", "ad", "bc", "bd"], ["ab", "ad", "bc", "cd"]])

    def test_a_walker_that_goes_along_each_tie_twice(self):
        for rows in [LOOP, TIE, TRIPLE, TRIANGLE, WITHIN, samples.star(40), samples.wheel(20)]:
            self.assertEqual(core_of(rows, walkers_of(rows)[0]), [])

    def test_the_ties_gone_along_just_once_sorted(self):
        for rows in ALL:
            for walker in walkers_of(rows):
                self.assertEqual(core_of(rows, walker), samples.slow_core(rows, walker))

    def test_answers_are_the_askers_own(self):
        for rows in MANY:
            for walker in walkers_of(rows):
                samples.check_own(self, core_of, samples.fresh(rows), list(walker))


if __name__ == "__main__":
    unittest.main()
