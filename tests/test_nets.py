"""Points [4] to [9]: rows are vetted, and their points, ties and ends are told."""

import itertools
import unittest

from threewebs.errors import Broken, NetError, NoNet, NoPlane
from threewebs.nets import ends_of, left_of, links_of, other_end, points_of, right_of, spread, tie_at, ties_of, vet

import samples
from samples import ALL, BARE, BRIDGED, FOURS, LOOP, MANY, MIXED, SMALL, TIE, TRIPLE, TWINS, WITHIN

CROSSED = [("a", ["x", "y", "x", "y"])]
WRONG_NAMES = [
    "", " ", "A", "Z", "aB", "a b", " a", "a ", "a:", ";", "-", "_", "a_b", "0.1", "abcdefghi", "123456789", "a" * 4000,
]


class Vetted(unittest.TestCase):
    def is_net(self, rows):
        self.assertIs(vet(rows), True, rows)

    def test_small_nets(self):
        for rows in SMALL:
            self.is_net(rows)

    def test_nets_that_have_grown(self):
        for rows in samples.GROWN:
            self.is_net(rows)

    def test_nets_of_forty_ties(self):
        for rows in samples.BIG + samples.LARGE:
            self.assertEqual(len(samples.slow_ties(rows)), 40)
            self.is_net(rows)
        self.assertEqual(len(samples.star(40)), 41)

    def test_a_net_somewhat_beyond_forty_ties_is_not_refused(self):
        for rows in [samples.star(45), samples.loops_within(45), samples.wheel(23)]:
            self.is_net(rows)

    def test_names_of_one_and_of_eight_signs(self):
        for name in ["a", "z", "0", "9", "abcdefgh", "01234567", "zzzzzzzz", "a0"]:
            self.is_net([(name, [])])
            self.is_net([(name, ["x", "x"])])
            self.is_net([("q", [name, name])])
            self.is_net([("q", [name]), ("r", [name])])

    def test_a_point_and_a_tie_of_the_same_name(self):
        self.is_net([("a", ["a", "a"])])
        self.is_net([("a", ["b"]), ("b", ["b"])])
        self.is_net([("x", ["x", "y"]), ("y", ["y", "x"])])

    def test_each_list_begun_anywhere(self):
        for rows in SMALL:
            for row, (point, ties) in enumerate(rows):
                for many in range(len(ties)):
                    self.is_net(rows[:row] + [(point, samples.turned(ties, many))] + rows[row + 1:])

    def test_the_rows_in_any_order(self):
        for rows in SMALL:
            for order in itertools.permutations(rows):
                self.is_net(list(order))

    def test_nothing_handed_in_is_changed(self):
        for rows in ALL:
            handed = samples.fresh(rows)
            vet(handed)
            self.assertEqual(handed, rows)


class Refused(unittest.TestCase):
    def refused(self, rows, by):
        handed = samples.fresh(rows)
        for taken in [by, NetError, ValueError]:
            with self.assertRaises(taken, msg=rows) as kept:
                vet(handed)
            self.assertIs(type(kept.exception), by, rows)
        self.assertEqual(handed, rows)

    def test_no_rows(self):
        self.refused([], NoNet)

    def test_a_points_name_that_is_no_name(self):
        for name in WRONG_NAMES:
            self.refused([(name, [])], NoNet)
            self.refused([(name, ["x", "x"])], NoNet)
            self.refused([("a", ["x"]), (name, ["x"])], NoNet)
            self.refused([(name, ["x"]), ("a", ["x"])], NoNet)

    def test_a_points_name_in_two_rows(self):
        self.refused([("a", []), ("a", [])], NoNet)
        self.refused([("a", ["x"]), ("a", ["x"])], NoNet)
        self.refused([("a", ["x", "x"]), ("a", [])], NoNet)
        self.refused([("a", ["x", "y"]), ("b", ["x", "y"]), ("a", [])], NoNet)
        self.refused([("a", ["x"]), ("b", ["x", "y"]), ("a", ["y"])], NoNet)

    def test_a_ties_name_that_is_no_name(self):
        for name in WRONG_NAMES:
            self.refused([("a", [name, name])], NoNet)
            self.refused([("a", [name]), ("b", [name])], NoNet)
            self.refused([("a", ["x", "x", name, name])], NoNet)
            self.refused([("a", [name, "x"]), ("b", ["x", name])], NoNet)

    def test_a_ties_name_that_stands_once(self):
        self.refused([("a", ["x"])], NoNet)
        self.refused([("a", ["x"]), ("b", [])], NoNet)
        self.refused([("a", ["x", "y"]), ("b", ["y"])], NoNet)
        self.refused([("a", ["x", "y", "y"])], NoNet)

    def test_a_ties_name_that_stands_three_times(self):
        self.refused([("a", ["x", "x", "x"])], NoNet)
        self.refused([("a", ["x", "x"]), ("b", ["x"])], NoNet)
        self.refused([("a", ["x"]), ("b", ["x"]), ("c", ["x"])], NoNet)
        self.refused([("a", ["y", "x", "x", "x"])], NoNet)

    def test_a_ties_name_that_stands_four_times(self):
        self.refused([("a", ["x", "x", "x", "x"])], NoNet)
        self.refused([("a", ["x", "x"]), ("b", ["x", "x"])], NoNet)
        self.refused([("a", ["x", "x", "y", "y"]), ("b", ["x", "x"])], NoNet)
        self.refused([(name, ["x"]) for name in "abcd"], NoNet)

    def test_one_name_more_or_less_in_any_net(self):
        for rows in MANY:
            for row, (point, ties) in enumerate(rows):
                for place in range(len(ties)):
                    less = ties[:place] + ties[place + 1:]
                    more = ties[:place] + [ties[place]] + ties[place:]
                    self.refused(rows[:row] + [(point, less)] + rows[row + 1:], NoNet)
                    self.refused(rows[:row] + [(point, more)] + rows[row + 1:], NoNet)

    def test_a_bare_point_more(self):
        for rows in MANY:
            self.refused(rows + [("bare", [])], Broken)
            self.refused([("bare", [])] + rows, Broken)
        self.refused([("a", []), ("b", [])], Broken)

    def test_two_nets_side_by_side(self):
        for one in SMALL:
            for other in SMALL:
                marked = [(f"n{k}", [f"m{tie[-6:]}" for tie in ties]) for k, (point, ties) in enumerate(other)]
                self.refused(one + marked, Broken)
                self.refused(marked + one, Broken)

    def test_nets_of_forty_ties_that_are_broken(self):
        self.refused(samples.path(20) + [(f"q{k}", [f"u{k}", f"u{(k + 1) % 20}"]) for k in range(20)], Broken)

    def test_two_loops_that_cross(self):
        self.refused(CROSSED, NoPlane)

    def test_rows_that_are_not_plane(self):
        self.refused([("a", ["x", "y", "z"]), ("b", ["x", "y", "z"])], NoPlane)
        self.refused([("a", ["k", "l", "s", "k", "l"]), ("b", ["s"])], NoPlane)
        self.refused([("a", ["s"]), ("b", ["s", "x", "y", "x", "y"])], NoPlane)
        self.refused([("a", ["x", "y", "x", "y", "k", "l", "k", "l"])], NoPlane)
        names = samples.loops_within(20)[0][1][:20]
        self.refused([("a", names + names)], NoPlane)

    def test_five_points_each_tied_to_each(self):
        rows = [(p, ["".join(sorted(p + q)) for q in "abcde" if q != p]) for p in "abcde"]
        self.refused(rows, NoPlane)

    def test_three_points_each_tied_to_three_others(self):
        rows = [(p, [p + q for q in "xyz"]) for p in "abc"] + [(q, [p + q for p in "abc"]) for q in "xyz"]
        self.refused(rows, NoPlane)

    def test_no_net_comes_ahead_of_broken_and_of_no_plane(self):
        for wrong in [("A", []), ("b", ["B", "B"]), ("b", ["k"]), ("b", ["k", "k", "k"]), ("a", [])]:
            self.refused([wrong] + CROSSED, NoNet)
            self.refused(CROSSED + [wrong], NoNet)
            self.refused(TIE[:1] + [("c", ["x"]), ("d", []), wrong], NoNet)
        self.refused([("", ["x", "y", "x", "y"])], NoNet)
        self.refused([("a", ["x", "y", "x", "y", "z"])], NoNet)

    def test_broken_comes_ahead_of_no_plane(self):
        self.refused(CROSSED + [("b", [])], Broken)
        self.refused([("b", [])] + CROSSED, Broken)
        self.refused(CROSSED + [("b", ["k", "l", "k", "l"])], Broken)
        # Here points less ties and with faces are 2, and yet the rows are no net.
        self.refused(CROSSED + [("b", ["k", "k"])], Broken)
        self.refused([("b", ["k", "k"])] + CROSSED, Broken)
        self.refused([("b", ["k"]), ("c", ["k"])] + CROSSED, Broken)


class PointsTiesAndEnds(unittest.TestCase):
    def test_points_in_the_order_of_rows(self):
        self.assertEqual(points_of(BARE), ["a"])
        self.assertEqual(points_of(FOURS), ["d", "b", "a", "c"])
        for rows in ALL:
            self.assertEqual(points_of(rows), [row[0] for row in rows])

    def test_ties_sorted_and_each_once(self):
        self.assertEqual(ties_of(BARE), [])
        self.assertEqual(ties_of(LOOP), ["x"])
        self.assertEqual(ties_of(MIXED), ["l", "s", "x", "y"])
        self.assertEqual(ties_of(BRIDGED), ["00", "a", "p", "q", "r", "zzzzzzz8", "zzzzzzz9"])
        self.assertEqual(ties_of([("a", ["b", "ab", "9", "a", "10", "a", "10", "9", "ab", "b"])]),
                         ["10", "9", "a", "ab", "b"])
        for rows in ALL:
            self.assertEqual(ties_of(rows), samples.slow_ties(rows))

    def test_ends_row_by_row_and_place_by_place(self):
        self.assertEqual(ends_of(BARE), [])
        self.assertEqual(ends_of(LOOP), [("a", 0), ("a", 1)])
        self.assertEqual(ends_of(TRIPLE), [("a", 0), ("a", 1), ("a", 2), ("b", 0), ("b", 1), ("b", 2)])
        self.assertEqual(ends_of([("z", ["x"]), ("a", ["x"])]), [("z", 0), ("a", 0)])
        for rows in ALL:
            self.assertEqual(ends_of(rows), samples.slow_ends(rows))

    def test_an_end_is_a_tuple_of_a_name_and_a_whole_number(self):
        for rows in MANY:
            for end in ends_of(rows):
                for told in [end, other_end(rows, end), left_of(rows, end), right_of(rows, end)]:
                    self.assertEqual([type(told), len(told)], [tuple, 2])
                    self.assertEqual([type(told[0]), type(told[1])], [str, int])

    def test_ties_at_ends(self):
        self.assertEqual([tie_at(MIXED, end) for end in ends_of(MIXED)], ["x", "y", "l", "l", "y", "x", "s", "s"])
        for rows in ALL:
            self.assertEqual([tie_at(rows, end) for end in ends_of(rows)], [tie for row in rows for tie in row[1]])

    def test_other_ends(self):
        self.assertEqual(other_end(LOOP, ("a", 0)), ("a", 1))
        self.assertEqual(other_end(LOOP, ("a", 1)), ("a", 0))
        self.assertEqual([other_end(WITHIN, ("a", k))[1] for k in range(4)], [3, 2, 1, 0])
        self.assertEqual(other_end(TIE, ("b", 0)), ("a", 0))
        self.assertEqual(other_end(TWINS, ("a", 1)), ("b", 0))
        for rows in MANY:
            for end in ends_of(rows):
                self.assertEqual(other_end(rows, end), samples.slow_other(rows, end))
                self.assertEqual(other_end(rows, other_end(rows, end)), end)

    def test_turns(self):
        self.assertEqual([left_of(MIXED, ("a", k))[1] for k in range(4)], [1, 2, 3, 0])
        self.assertEqual([right_of(MIXED, ("a", k))[1] for k in range(4)], [3, 0, 1, 2])
        self.assertEqual([left_of(MIXED, ("b", k))[1] for k in range(3)], [1, 2, 0])
        self.assertEqual([right_of(MIXED, ("b", k))[1] for k in range(3)], [2, 0, 1])
        for rows in MANY:
            for end in ends_of(rows):
                self.assertEqual(left_of(rows, end), samples.slow_turn(rows, end, 1))
                self.assertEqual(right_of(rows, end), samples.slow_turn(rows, end, -1))

    def test_turns_at_a_point_with_one_end(self):
        for rows in [TIE, samples.star(40)]:
            point = rows[-1][0]
            self.assertEqual(left_of(rows, (point, 0)), (point, 0))
            self.assertEqual(right_of(rows, (point, 0)), (point, 0))

    def test_turns_and_other_ends_of_nets_of_forty_ties(self):
        for rows in [samples.wheel(20), samples.loops_within(40), samples.LARGE[0]]:
            for end in ends_of(rows):
                self.assertEqual(other_end(rows, end), samples.slow_other(rows, end))
                self.assertEqual(right_of(rows, left_of(rows, end)), end)

    def test_answers_are_the_askers_own(self):
        for rows in MANY:
            for asked in [points_of, ties_of, ends_of, links_of]:
                samples.check_own(self, asked, samples.fresh(rows))
            for end in ends_of(rows):
                for asked in [tie_at, other_end, left_of, right_of]:
                    handed = samples.fresh(rows)
                    asked(handed, end)
                    self.assertEqual(handed, rows)


class Links(unittest.TestCase):
    def test_links(self):
        self.assertEqual(links_of(BARE), [])
        self.assertEqual(links_of(MIXED), [("l", "a", "a"), ("s", "b", "s"), ("x", "a", "b"), ("y", "a", "b")])
        for rows in ALL:
            self.assertEqual(links_of(rows), [(tie, *samples.slow_points(rows, tie)) for tie in ties_of(rows)])

    def test_spread(self):
        self.assertEqual(spread("a", []), {"a": False})
        self.assertEqual(spread("a", [("a", "a", True)]), {"a": False})
        self.assertEqual(spread(0, [(2, 1, True), (1, 0, True), (2, 3, True)]), {0: False, 1: True, 2: False, 3: True})
        self.assertEqual(spread("b", [("c", "d", True), ("a", "b", True)]), {"b": False, "a": True})


if __name__ == "__main__":
    unittest.main()
