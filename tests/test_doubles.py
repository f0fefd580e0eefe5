"""Points [22] to [25]: doubles; and [3], as far as it speaks of walkers and doubles."""

import unittest

from threewebs.doubles import double_by, doubles_of, is_double, numbers_by
from threewebs.errors import NetError, NoDouble, NoWalker, TooMany
from threewebs.nets import ties_of
from threewebs.othernet import other_net
from threewebs.sets import summed
from threewebs.walkers import core_of, walkers_of

import samples
from samples import ALL, BARE, BIG, FOURS, LARGE, LOOP, MANY, MIXED, TIE, TRIPLE, TWINS

# All sets of ties of these are asked.
FEW = [rows for rows in MANY if len(ties_of(rows)) <= 7]
# All sets of points of these are asked.
NOT_WIDE = [rows for rows in MANY if len(rows) <= 9]


def cores(rows):
    return [core_of(rows, walker) for walker in walkers_of(rows)]


def some_numbers(rows, seed):
    """Some numbers of walkers, out of order."""
    dice = samples.Dice(seed)
    numbers = [number for number in range(len(walkers_of(rows))) if dice.throw(2)]
    cut = dice.throw(len(numbers) + 1)
    return numbers[cut:] + numbers[:cut]


class Asker(unittest.TestCase):
    def refused(self, by, asked, *things):
        for taken in [by, NetError, ValueError]:
            with self.assertRaises(taken, msg=things) as kept:
                asked(*things)
            self.assertIs(type(kept.exception), by)


class IsDouble(Asker):
    def test_small_nets(self):
        self.assertIs(is_double(TWINS, ["x", "y"]), True)
        self.assertIs(is_double(TWINS, ["x"]), False)
        self.assertIs(is_double(LOOP, ["x"]), False)
        self.assertIs(is_double(TIE, ["x"]), False)
        self.assertIs(is_double(TRIPLE, ["x", "y"]), False)
        self.assertIs(is_double(TRIPLE, ["x", "y", "z"]), False)
        self.assertIs(is_double(MIXED, ["l", "x", "y"]), False)
        self.assertIs(is_double(FOURS, ["ab", "ac", "bd", "cd"]), True)

    def test_the_set_without_ties(self):
        for rows in ALL:
            self.assertIs(is_double(rows, []), True)

    def test_just_the_rounds_that_are_cuts(self):
        for rows in FEW:
            doubles = samples.slow_doubles(rows)
            for some in samples.subsets(ties_of(rows)):
                self.assertIs(is_double(rows, some), some in doubles, (rows, some))

    def test_all_ties_of_a_ring(self):
        self.assertIs(is_double(samples.ring(40), ties_of(samples.ring(40))), True)
        self.assertIs(is_double(samples.ring(39), ties_of(samples.ring(39))), False)

    def test_nothing_handed_in_is_changed(self):
        for rows in MANY:
            samples.check_own(self, is_double, samples.fresh(rows), ties_of(rows))


class DoubleBy(Asker):
    def test_small_nets(self):
        self.assertEqual(double_by(TWINS, [0]), ["x", "y"])
        self.assertEqual(double_by(TWINS, [1]), ["x", "y"])
        self.assertEqual(double_by(FOURS, [0]), ["ab", "ac", "bd", "cd"])
        self.assertEqual(double_by(FOURS, [1, 2]), ["ab", "ac", "bd", "cd"])
        self.assertEqual(double_by(LOOP, [0]), [])
        self.assertEqual(double_by(samples.chain(20), [0]), ["t0", "t1", "u0", "u1"])
        self.assertEqual(double_by(samples.chain(20), [1]), ["t0", "u0"])
        self.assertEqual(double_by(samples.chain(20), list(range(20, 10, -1))), ["t10", "u10"])

    def test_no_numbers_and_all_numbers(self):
        for rows in ALL:
            self.assertEqual(double_by(rows, []), [])
            self.assertEqual(double_by(rows, list(range(len(walkers_of(rows))))), [])

    def test_the_sum_of_the_cores_whatever_their_order(self):
        for rows in ALL:
            for seed in range(4):
                numbers = some_numbers(rows, seed)
                wanted = samples.slow_sum([cores(rows)[number] for number in numbers])
                for order in [numbers, numbers[::-1], sorted(numbers)]:
                    self.assertEqual(double_by(rows, order), wanted)

    def test_each_core_is_a_double(self):
        for rows in ALL:
            for number, core in enumerate(cores(rows)):
                self.assertEqual(double_by(rows, [number]), core)
                self.assertIs(is_double(rows, core), True)

    def test_numbers_of_no_walker(self):
        for rows in MANY + BIG:
            many = len(walkers_of(rows))
            for wrong in [many, many + 1, 99, -1, -2, -many - 1, 10 ** 299, -10 ** 299]:
                self.refused(NoWalker, double_by, rows, [wrong])
                self.refused(NoWalker, double_by, rows, list(range(many)) + [wrong])
                self.refused(NoWalker, double_by, rows, [wrong] + list(range(many)))

    def test_the_bare_point(self):
        self.assertEqual(double_by(BARE, []), [])
        for wrong in [0, 1, -1]:
            self.refused(NoWalker, double_by, BARE, [wrong])

    def test_forty_numbers(self):
        self.refused(NoWalker, double_by, samples.chain(20), list(range(40)))

    def test_answers_are_the_askers_own(self):
        for rows in MANY:
            for numbers in [[], [0], some_numbers(rows, 7)]:
                if walkers_of(rows):
                    samples.check_own(self, double_by, samples.fresh(rows), numbers)
        samples.check_own(self, double_by, samples.fresh(BARE), [])


class NumbersBy(Asker):
    def test_small_nets(self):
        self.assertEqual(numbers_by(BARE, []), [])
        self.assertEqual(numbers_by(TWINS, []), [])
        self.assertEqual(numbers_by(TWINS, ["x", "y"]), [1])
        self.assertEqual(numbers_by(FOURS, ["ab", "ac", "bd", "cd"]), [1, 2])
        self.assertEqual(numbers_by(FOURS, ["ac", "ad", "bc", "bd"]), [1])
        self.assertEqual(numbers_by(samples.chain(20), ["t0", "u0"]), [1])
        self.assertEqual(numbers_by(samples.chain(20), ["t1", "u1"]), list(range(2, 21)))
        self.assertEqual(numbers_by(samples.chain(20), ["t19", "u19"]), [20])

    def test_sorted_without_0_and_back_again(self):
        for rows in ALL:
            many = len(walkers_of(rows))
            for seed in range(6):
                numbers = some_numbers(rows, seed)
                wanted = [k for k in range(many) if (k in numbers) != (0 in numbers)]
                self.assertEqual(numbers_by(rows, double_by(rows, numbers)), wanted)

    def test_the_one_such_list_for_each_double(self):
        for rows in NOT_WIDE:
            many = len(walkers_of(rows))
            for double in samples.slow_doubles(rows):
                fitting = [list(some) for some in samples.subsets(range(1, many))
                           if samples.slow_sum([cores(rows)[number] for number in some]) == double]
                self.assertEqual([numbers_by(rows, double)], fitting)

    def test_a_set_that_is_no_double(self):
        for rows in FEW:
            doubles = samples.slow_doubles(rows)
            for some in samples.subsets(ties_of(rows)):
                if some not in doubles:
                    self.refused(NoDouble, numbers_by, rows, some)

    def test_rounds_that_are_no_cuts_and_cuts_that_are_no_rounds(self):
        self.refused(NoDouble, numbers_by, LOOP, ["x"])
        self.refused(NoDouble, numbers_by, TIE, ["x"])
        self.refused(NoDouble, numbers_by, TRIPLE, ["x", "y"])
        self.refused(NoDouble, numbers_by, TRIPLE, ["x", "y", "z"])
        self.refused(NoDouble, numbers_by, MIXED, ["l", "x", "y"])
        self.refused(NoDouble, numbers_by, samples.star(40), ties_of(samples.star(40)))
        self.refused(NoDouble, numbers_by, samples.loops_within(40), ties_of(samples.loops_within(40)))

    def test_whole_numbers(self):
        for number in numbers_by(samples.chain(20), ["t1", "u1"]):
            self.assertIs(type(number), int)

    def test_answers_are_the_askers_own(self):
        for rows in MANY:
            samples.check_own(self, numbers_by, samples.fresh(rows), double_by(rows, some_numbers(rows, 2)))


class Doubles(Asker):
    def test_small_nets(self):
        self.assertEqual(doubles_of(BARE), [[]])
        self.assertEqual(doubles_of(LOOP), [[]])
        self.assertEqual(doubles_of(TWINS), [[], ["x", "y"]])
        self.assertEqual(doubles_of(FOURS),
                         [[], ["ab", "ac", "bd", "cd"], ["ab", "ad", "bc", "cd"], ["ac", "ad", "bc", "bd"]])
        self.assertEqual(doubles_of(samples.chain(2)), [[], ["t0", "t1", "u0", "u1"], ["t0", "u0"], ["t1", "u1"]])

    def test_all_doubles_sorted_each_once(self):
        for rows in NOT_WIDE:
            self.assertEqual(doubles_of(rows), samples.slow_doubles(rows))

    def test_as_many_as_two_to_the_power_of_the_walkers_less_one(self):
        for rows in MANY + LARGE:
            many = len(walkers_of(rows))
            if 0 < many <= 9:
                doubles = doubles_of(rows)
                self.assertEqual(len(doubles), 2 ** (many - 1))
                self.assertEqual(doubles, sorted(doubles))
                self.assertEqual(len({tuple(double) for double in doubles}), len(doubles))
                for double in doubles:
                    self.assertIs(is_double(rows, double), True)

    def test_nine_walkers_are_told_and_more_refused(self):
        rows = samples.chain(8)
        self.assertEqual(len(walkers_of(rows)), 9)
        self.assertEqual(len(doubles_of(rows)), 256)
        self.assertEqual(doubles_of(rows), samples.slow_doubles(rows))
        for many in range(9, 21):
            self.assertEqual(len(walkers_of(samples.chain(many))), many + 1)
            self.refused(TooMany, doubles_of, samples.chain(many))

    def test_each_double_is_a_sum_of_cores_in_just_two_ways(self):
        for rows in NOT_WIDE:
            many = len(walkers_of(rows))
            ways = {}
            for numbers in samples.subsets(range(many)):
                total = samples.slow_sum([cores(rows)[number] for number in numbers])
                ways.setdefault(tuple(total), []).append(numbers)
            self.assertEqual(sorted(list(double) for double in ways), doubles_of(rows))
            if many:
                for one, other in ways.values():
                    self.assertEqual(sorted(one + other), list(range(many)))

    def test_sums_of_doubles_are_doubles(self):
        for rows in NOT_WIDE:
            doubles = doubles_of(rows)
            for one in doubles:
                for other in doubles:
                    self.assertIn(summed(one, other), doubles)

    def test_the_other_net_has_as_many_walkers_and_the_same_doubles(self):
        for rows in ALL:
            other = other_net(rows)
            self.assertEqual(len(walkers_of(other)), len(walkers_of(rows)))
            self.assertEqual(sorted(cores(other)), sorted(cores(rows)))
            if len(walkers_of(rows)) <= 9:
                self.assertEqual(doubles_of(other), doubles_of(rows))

    def test_answers_are_the_askers_own(self):
        for rows in MANY + [samples.chain(8)]:
            samples.check_own(self, doubles_of, samples.fresh(rows))


if __name__ == "__main__":
    unittest.main()
