"""Points [6] and [7]: ends and turns."""

import copy
import unittest

from threewebs.turns import (
    ends_in_order, ends_round, left_steps, other_ends, right_steps, ties_by_end, turned_left, turned_right,
)

# Two points with a twin tie, a loop at one of them, and a spike.
ROWS = [("a", ["x", "y", "l", "l"]), ("b", ["y", "x", "s"]), ("s", ["s"])]
OTHERS = {
    ("a", 0): ("b", 1), ("b", 1): ("a", 0),
    ("a", 1): ("b", 0), ("b", 0): ("a", 1),
    ("a", 2): ("a", 3), ("a", 3): ("a", 2),
    ("b", 2): ("s", 0), ("s", 0): ("b", 2),
}


class Ends(unittest.TestCase):
    def test_ends_of_a_row_place_by_place(self):
        self.assertEqual(ends_round(ROWS[0]), [("a", 0), ("a", 1), ("a", 2), ("a", 3)])
        self.assertEqual(ends_round(ROWS[2]), [("s", 0)])

    def test_the_bare_point_has_no_ends(self):
        self.assertEqual(ends_round(("a", [])), [])
        self.assertEqual(other_ends([("a", [])]), {})

    def test_other_ends(self):
        self.assertEqual(other_ends(ROWS), OTHERS)

    def test_the_other_end_of_the_other_end_is_the_end(self):
        others = other_ends(ROWS)
        for end in others:
            self.assertNotEqual(others[end], end)
            self.assertEqual(others[others[end]], end)

    def test_one_loop_alone(self):
        self.assertEqual(other_ends([("a", ["l", "l"])]), {("a", 0): ("a", 1), ("a", 1): ("a", 0)})

    def test_two_loops_one_within_the_other(self):
        others = other_ends([("a", ["k", "l", "l", "k"])])
        self.assertEqual(others[("a", 0)], ("a", 3))
        self.assertEqual(others[("a", 1)], ("a", 2))

    def test_a_point_and_a_tie_of_one_name(self):
        self.assertEqual(other_ends([("a", ["a"]), ("b", ["a"])]), {("a", 0): ("b", 0), ("b", 0): ("a", 0)})

    def test_nothing_handed_in_is_changed_and_answers_are_new(self):
        rows = copy.deepcopy(ROWS)
        ends_round(rows[0]).clear()
        other_ends(rows).clear()
        self.assertEqual(rows, ROWS)
        self.assertEqual(len(ends_round(rows[0])), 4)
        self.assertEqual(other_ends(rows), OTHERS)


class Turns(unittest.TestCase):
    def test_left_is_the_next_end(self):
        self.assertEqual(turned_left(("a", 0), 4), ("a", 1))
        self.assertEqual(turned_left(("a", 2), 4), ("a", 3))

    def test_left_behind_the_last_end_is_the_first(self):
        for many in range(2, 81):
            self.assertEqual(turned_left(("b", many - 1), many), ("b", 0))

    def test_right_is_the_end_ahead(self):
        self.assertEqual(turned_right(("a", 3), 4), ("a", 2))
        self.assertEqual(turned_right(("a", 1), 4), ("a", 0))

    def test_right_ahead_of_the_first_end_is_the_last(self):
        for many in range(2, 81):
            self.assertEqual(turned_right(("b", 0), many), ("b", many - 1))

    def test_a_point_with_one_end(self):
        self.assertEqual(turned_left(("s", 0), 1), ("s", 0))
        self.assertEqual(turned_right(("s", 0), 1), ("s", 0))

    def test_two_ends_left_and_right_are_one(self):
        for place in [0, 1]:
            self.assertEqual(turned_left(("c", place), 2), ("c", 1 - place))
            self.assertEqual(turned_right(("c", place), 2), ("c", 1 - place))

    def test_left_and_right_undo_one_another(self):
        for many in range(1, 12):
            for end in ends_round(("p", ["t"] * many)):
                self.assertEqual(turned_right(turned_left(end, many), many), end)
                self.assertEqual(turned_left(turned_right(end, many), many), end)

    def test_left_goes_round_through_all_ends(self):
        ends = ends_round(("p", ["t"] * 7))
        end = ends[0]
        seen = []
        for turn in range(7):
            seen.append(end)
            end = turned_left(end, 7)
        self.assertEqual(seen, ends)
        self.assertEqual(end, ends[0])


class Steps(unittest.TestCase):
    def test_ends_of_all_rows_in_order(self):
        self.assertEqual(ends_in_order([("a", [])]), [])
        self.assertEqual(ends_in_order(ROWS), [("a", 0), ("a", 1), ("a", 2), ("a", 3)]
                         + [("b", 0), ("b", 1), ("b", 2), ("s", 0)])

    def test_ties_by_end(self):
        self.assertEqual(ties_by_end([("a", [])]), {})
        self.assertEqual(list(ties_by_end(ROWS).values()), ["x", "y", "l", "l", "y", "x", "s", "s"])
        self.assertEqual(list(ties_by_end(ROWS)), ends_in_order(ROWS))

    def test_along_and_left(self):
        steps = left_steps(ROWS)
        self.assertEqual([steps[end] for end in ends_in_order(ROWS)], [
            ("b", 2), ("b", 1), ("a", 0), ("a", 3), ("a", 2), ("a", 1), ("s", 0), ("b", 0),
        ])

    def test_along_and_right(self):
        steps = right_steps(ROWS)
        self.assertEqual([steps[end] for end in ends_in_order(ROWS)], [
            ("b", 0), ("b", 2), ("a", 2), ("a", 1), ("a", 0), ("a", 3), ("s", 0), ("b", 1),
        ])


if __name__ == "__main__":
    unittest.main()
