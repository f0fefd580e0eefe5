"""Points [30] to [35]: corners, and ties put in, taken out and shrunk."""

import unittest

from threewebs.counting import tree_count
from threewebs.deeds import shrunk, spiked, taken_out, tied
from threewebs.errors import Bridge, Loop, NoCorner, NoFace, NoTie, Taken, TooMany
from threewebs.faces import faces_of
from threewebs.kinds import kind_of
from threewebs.nets import ties_of, vet
from threewebs.othernet import other_net
from threewebs.walkers import walkers_of

import samples
from samples import BARE, BESIDE, BIG, BRIDGED, DEEP, DENSE, FOURS, LARGE, LOOP, MANY, MIXED, SMALL, TIE, TRIANGLE
from samples import TRIPLE, TWINS, WITHIN, WOVEN, check_refused, form, fresh, slow_corner_faces

FEW = [rows for rows in MANY + WOVEN if len(ties_of(rows)) <= 7]
WIDE = MANY + WOVEN + DENSE[:4] + LARGE[:4]
WIDE += [samples.chain(20), samples.wheel(20), samples.ring(40), samples.twins(40)]
NO_NAMES = ["", "A", "x y", " x", "x ", "abcdefghi", "x-", "_", "x;", ":", "~", "a" * 4000]
FULL = BIG[:9] + LARGE[:3]


def corners(rows):
    return [corner for face in slow_corner_faces(rows) for corner in face]


def no_corners(rows):
    """Tuples of a text and a whole number that are no corners."""
    found = []
    for point, ties in rows:
        many = max(len(ties), 1)
        found += [(point, place) for place in [many, many + 1, -1, -many, -many - 1, 99, 10 ** 299, -10 ** 299]]
    points = [point for point, ties in rows]
    return found + [(text, 0) for text in NO_NAMES + ["nope", "q"] if text not in points]


def pairs(rows):
    """All pairs of corners, with whether they lie in one face."""
    faces = slow_corner_faces(rows)
    number = {corner: k for k, face in enumerate(faces) for corner in face}
    return [(one, other, number[one] == number[other]) for one in number for other in number]


def slow_tied(rows, one, other, tie):
    """The new rows end by end, with the new name ahead of the end at a corner's place."""
    found = []
    for point, ties in rows:
        ends = []
        for place, each in enumerate(ties + ["last"]):
            ends += [tie for corner in (one, other) if corner == (point, place)]
            ends.append(each)
        found.append((point, ends[:-1]))
    return found


def slow_shrunk(rows, tie):
    """By the words of [34]: walked round the point that goes."""
    stays, goes = samples.slow_points(rows, tie)
    lists = dict(rows)
    behind = samples.turned(lists[goes], lists[goes].index(tie))[1:]
    found = []
    for point, ties in rows:
        if point == stays:
            found.append((point, [new for each in ties for new in (behind if each == tie else [each])]))
        elif point != goes:
            found.append((point, list(ties)))
    return found


def is_bridge(rows, tie):
    return samples.slow_groups(rows, [each for each in samples.slow_ties(rows) if each != tie]) == 2


def is_loop(rows, tie):
    one, other = samples.slow_points(rows, tie)
    return one == other


class Tied(unittest.TestCase):
    def test_on_the_bare_point(self):
        self.assertEqual(tied(BARE, ("a", 0), ("a", 0), "x"), LOOP)

    def test_at_the_corners_of_a_loop(self):
        self.assertEqual(tied(LOOP, ("a", 0), ("a", 0), "y"), [("a", ["y", "y", "x", "x"])])
        self.assertEqual(tied(LOOP, ("a", 1), ("a", 1), "y"), [("a", ["x", "y", "y", "x"])])
        check_refused(self, NoFace, tied, LOOP, ("a", 0), ("a", 1), "y")
        check_refused(self, NoFace, tied, LOOP, ("a", 1), ("a", 0), "y")

    def test_between_two_corners_of_one_point(self):
        # The places are those of the list as it was, whichever corner is told first.
        rows = [("a", ["p", "q", "r"]), ("b", ["p"]), ("c", ["q"]), ("d", ["r"])]
        for one, other in [(("a", 0), ("a", 2)), (("a", 2), ("a", 0))]:
            self.assertEqual(tied(rows, one, other, "x")[0], ("a", ["x", "p", "q", "x", "r"]))
        for one, other in [(("a", 1), ("a", 2)), (("a", 2), ("a", 1))]:
            self.assertEqual(tied(rows, one, other, "x")[0], ("a", ["p", "x", "q", "x", "r"]))
        self.assertEqual(tied(rows, ("a", 1), ("a", 1), "x")[0], ("a", ["p", "x", "x", "q", "r"]))
        self.assertEqual(tied(rows, ("a", 0), ("d", 0), "x"),
                         [("a", ["x", "p", "q", "r"]), ("b", ["p"]), ("c", ["q"]), ("d", ["x", "r"])])

    def test_between_two_points(self):
        self.assertEqual(tied(TIE, ("a", 0), ("b", 0), "y"), [("a", ["y", "x"]), ("b", ["y", "x"])])
        self.assertEqual(tied(TWINS, ("a", 0), ("b", 0), "z"), [("a", ["z", "x", "y"]), ("b", ["z", "y", "x"])])
        self.assertEqual(tied(TRIANGLE, ("a", 0), ("c", 0), "new"),
                         [("c", ["new", "ac", "bc"]), ("a", ["new", "ab", "ac"]), ("b", ["bc", "ab"])])
        self.assertEqual(tied(TRIANGLE, ("c", 1), ("b", 1), "new"),
                         [("c", ["ac", "new", "bc"]), ("a", ["ab", "ac"]), ("b", ["bc", "new", "ab"])])
        check_refused(self, NoFace, tied, TRIANGLE, ("a", 0), ("c", 1), "new")

    def test_all_pairs_of_corners(self):
        for rows in FEW:
            for one, other, together in pairs(rows):
                if together:
                    self.assertEqual(tied(rows, one, other, "new"), slow_tied(rows, one, other, "new"))
                else:
                    check_refused(self, NoFace, tied, rows, one, other, "new")

    def test_a_net_with_one_face_more_comes_of_it(self):
        for rows in WIDE:
            if len(ties_of(rows)) < 40:
                for one, other, together in pairs(rows)[::7]:
                    if together:
                        new = tied(rows, one, other, "new")
                        self.assertIs(vet(new), True)
                        self.assertEqual(len(faces_of(new)), len(faces_of(rows)) + 1)
                        self.assertEqual(len(new), len(rows))

    def test_there_and_back(self):
        for rows in FEW:
            for one, other, together in pairs(rows):
                if together:
                    self.assertEqual(taken_out(tied(rows, one, other, "new"), "new"), rows)

    def test_refusals_of_corners(self):
        for rows in SMALL:
            good = corners(rows)[-1]
            for wrong in no_corners(rows):
                for name in ["new", "", ties_of(rows)[0] if ties_of(rows) else "A"]:
                    check_refused(self, NoCorner, tied, rows, wrong, good, name)
                    check_refused(self, NoCorner, tied, rows, good, wrong, name)
                    check_refused(self, NoCorner, tied, rows, wrong, wrong, name)

    def test_the_bare_point_has_one_corner(self):
        for wrong in [("a", 1), ("a", -1), ("b", 0), ("", 0), ("a", 10 ** 299)]:
            check_refused(self, NoCorner, tied, BARE, wrong, ("a", 0), "x")
            check_refused(self, NoCorner, tied, BARE, ("a", 0), wrong, "x")

    def test_names_that_are_taken_or_no_names(self):
        for rows in SMALL:
            for corner in corners(rows):
                for name in ties_of(rows) + NO_NAMES:
                    check_refused(self, Taken, tied, rows, corner, corner, name)

    def test_a_point_may_have_the_same_name(self):
        for rows in SMALL:
            for name in ["abcdefgh", "0", "z9"] + [point for point, ties in rows]:
                if name not in ties_of(rows):
                    corner = corners(rows)[0]
                    self.assertEqual(tied(rows, corner, corner, name), slow_tied(rows, corner, corner, name))

    def test_forty_ties_and_no_more(self):
        for rows in FULL:
            self.assertEqual(len(ties_of(rows)), 40)
            corner = corners(rows)[-1]
            check_refused(self, TooMany, tied, rows, corner, corner, "new")
        rows = samples.twins(39)
        self.assertEqual(len(ties_of(tied(rows, ("a", 0), ("a", 0), "new"))), 40)

    def test_the_order_of_refusals(self):
        rows = samples.twins(40)
        unlike = [(one, other) for one, other, together in pairs(rows) if not together][0]
        check_refused(self, NoCorner, tied, rows, ("nope", 0), unlike[0], "t0")
        check_refused(self, NoCorner, tied, rows, unlike[0], ("a", 40), "t0")
        for name in ["t0", "", "new"]:
            check_refused(self, NoFace, tied, rows, unlike[0], unlike[1], name)
        for name in ["t0", ""]:
            check_refused(self, Taken, tied, rows, unlike[0], unlike[0], name)
        check_refused(self, TooMany, tied, rows, unlike[0], unlike[0], "new")

    def test_nothing_handed_in_is_changed_and_answers_are_the_askers_own(self):
        for rows in MANY:
            for face in slow_corner_faces(rows):
                samples.check_own(self, tied, fresh(rows), face[0], face[-1], "new")


class Spiked(unittest.TestCase):
    def test_on_the_bare_point_a_loop_and_a_bridge(self):
        self.assertEqual(spiked(BARE, ("a", 0), "x", "b"), TIE)
        self.assertEqual(spiked(LOOP, ("a", 0), "s", "s"), [("a", ["s", "x", "x"]), ("s", ["s"])])
        self.assertEqual(spiked(LOOP, ("a", 1), "s", "0"), [("a", ["x", "s", "x"]), ("0", ["s"])])
        self.assertEqual(spiked(TIE, ("b", 0), "y", "c"), [("a", ["x"]), ("b", ["y", "x"]), ("c", ["y"])])

    def test_at_each_corner_the_new_row_behind_all_others(self):
        for rows in WIDE:
            if len(ties_of(rows)) < 40:
                for corner in corners(rows):
                    new = spiked(rows, corner, "new", "0new")
                    self.assertEqual(new, slow_tied(rows, corner, None, "new") + [("0new", ["new"])])
                    self.assertIs(vet(new), True)
                    self.assertEqual(len(faces_of(new)), len(faces_of(rows)))

    def test_there_and_back(self):
        for rows in FEW + WOVEN:
            for corner in corners(rows):
                self.assertEqual(shrunk(spiked(rows, corner, "new", "newp"), "new"), rows)

    def test_refusals_of_corners(self):
        for rows in SMALL:
            for wrong in no_corners(rows):
                for tie, point in [("new", "newp"), ("", ""), ("new", rows[0][0])]:
                    check_refused(self, NoCorner, spiked, rows, wrong, tie, point)

    def test_names_that_are_taken_or_no_names(self):
        for rows in SMALL:
            corner = corners(rows)[-1]
            points = [point for point, ties in rows]
            for name in ties_of(rows) + NO_NAMES:
                for point in ["newp", points[0], ""]:
                    check_refused(self, Taken, spiked, rows, corner, name, point)
            for name in points + NO_NAMES:
                check_refused(self, Taken, spiked, rows, corner, "new", name)

    def test_a_point_and_a_tie_may_have_the_same_name(self):
        self.assertEqual(spiked(TIE, ("a", 0), "a", "x"), [("a", ["a", "x"]), ("b", ["x"]), ("x", ["a"])])
        self.assertEqual(spiked(TIE, ("a", 0), "abcdefgh", "12345678")[2], ("12345678", ["abcdefgh"]))

    def test_forty_ties_and_no_more(self):
        for rows in FULL:
            check_refused(self, TooMany, spiked, rows, corners(rows)[0], "new", "newp")
        rows = samples.path(39)
        self.assertEqual(len(spiked(rows, ("p0", 0), "new", "newp")), 41)

    def test_the_order_of_refusals(self):
        rows = samples.star(40)
        check_refused(self, NoCorner, spiked, rows, ("hub", 40), "t0", "hub")
        check_refused(self, NoCorner, spiked, rows, ("hub", -1), "new", "newp")
        check_refused(self, Taken, spiked, rows, ("hub", 39), "t0", "newp")
        check_refused(self, Taken, spiked, rows, ("hub", 39), "new", "hub")
        check_refused(self, Taken, spiked, rows, ("hub", 39), "new", "")
        check_refused(self, TooMany, spiked, rows, ("hub", 39), "new", "newp")

    def test_nothing_handed_in_is_changed_and_answers_are_the_askers_own(self):
        for rows in MANY:
            for corner in corners(rows)[::3]:
                samples.check_own(self, spiked, fresh(rows), corner, "new", "newp")


class TakenOut(unittest.TestCase):
    def test_small_nets(self):
        self.assertEqual(taken_out(LOOP, "x"), BARE)
        self.assertEqual(taken_out(TWINS, "y"), TIE)
        self.assertEqual(taken_out(WITHIN, "l"), [("a", ["k", "k"])])
        self.assertEqual(taken_out(MIXED, "x"), [("a", ["y", "l", "l"]), ("b", ["y", "s"]), ("s", ["s"])])
        self.assertEqual(taken_out(TRIANGLE, "bc"), [("c", ["ac"]), ("a", ["ab", "ac"]), ("b", ["ab"])])

    def test_each_tie(self):
        for rows in WIDE + BIG:
            for tie in ties_of(rows):
                if is_bridge(rows, tie):
                    check_refused(self, Bridge, taken_out, rows, tie)
                else:
                    wanted = [(point, [each for each in ties if each != tie]) for point, ties in rows]
                    self.assertEqual(taken_out(rows, tie), wanted)
                    self.assertIs(vet(wanted), True)

    def test_bridges(self):
        check_refused(self, Bridge, taken_out, TIE, "x")
        check_refused(self, Bridge, taken_out, DEEP, "s")
        check_refused(self, Bridge, taken_out, BRIDGED, "a")
        for tie in ["t0", "t20", "t39"]:
            check_refused(self, Bridge, taken_out, samples.path(40), tie)

    def test_no_tie(self):
        for rows in SMALL:
            for text in NO_NAMES + ["nope"] + [point for point, ties in rows]:
                if text not in ties_of(rows):
                    check_refused(self, NoTie, taken_out, rows, text)

    def test_nothing_handed_in_is_changed_and_answers_are_the_askers_own(self):
        for rows in MANY:
            for tie in ties_of(rows):
                if not is_bridge(rows, tie):
                    samples.check_own(self, taken_out, fresh(rows), tie)


class Shrunk(unittest.TestCase):
    def test_small_nets(self):
        self.assertEqual(shrunk(TIE, "x"), BARE)
        self.assertEqual(shrunk(TWINS, "x"), [("a", ["y", "y"])])
        self.assertEqual(shrunk(TWINS, "y"), [("a", ["x", "x"])])
        self.assertEqual(shrunk(TRIPLE, "y"), [("a", ["x", "x", "z", "z"])])
        self.assertEqual(shrunk(DEEP, "s"), [("a", ["k", "l", "m", "m", "l", "k"])])
        self.assertEqual(shrunk(TRIANGLE, "bc"), [("c", ["ac", "ab"]), ("a", ["ab", "ac"])])
        self.assertEqual(shrunk(MIXED, "y"), [("a", ["x", "x", "s", "l", "l"]), ("s", ["s"])])

    def test_the_point_whose_row_comes_first_stays(self):
        self.assertEqual(shrunk([("b", ["x"]), ("a", ["x", "y"]), ("c", ["y"])], "x"), [("b", ["y"]), ("c", ["y"])])
        self.assertEqual(shrunk([("b", ["x"]), ("a", ["x", "y"]), ("c", ["y"])], "y"), [("b", ["x"]), ("a", ["x"])])

    def test_from_behind_the_ends_end_round_to_the_one_ahead(self):
        rows = [("e", ["k"]), ("m", ["k", "t", "l"]), ("f", ["l"]), ("n", ["p", "q", "t", "r", "s"]),
                ("p", ["p"]), ("q", ["q"]), ("r", ["r"]), ("s", ["s"])]
        self.assertEqual(shrunk(rows, "t")[1], ("m", ["k", "r", "s", "p", "q", "l"]))
        turned = [row if row[0] != "n" else ("n", ["t", "r", "s", "p", "q"]) for row in rows]
        self.assertEqual(shrunk(turned, "t"), shrunk(rows, "t"))
        self.assertEqual([point for point, ties in shrunk(rows, "t")], ["e", "m", "f", "p", "q", "r", "s"])
        upturned = rows[::-1]
        self.assertEqual(shrunk(upturned, "t")[4], ("n", ["p", "q", "l", "k", "r", "s"]))

    def test_each_tie(self):
        for rows in WIDE + BIG:
            for tie in ties_of(rows):
                if is_loop(rows, tie):
                    check_refused(self, Loop, shrunk, rows, tie)
                else:
                    new = shrunk(rows, tie)
                    self.assertEqual(new, slow_shrunk(rows, tie))
                    self.assertIs(vet(new), True)
                    self.assertEqual(len(faces_of(new)), len(faces_of(rows)))

    def test_no_tie(self):
        for rows in SMALL:
            for text in NO_NAMES + ["nope"] + [point for point, ties in rows]:
                if text not in ties_of(rows):
                    check_refused(self, NoTie, shrunk, rows, text)

    def test_down_to_the_bare_point(self):
        rows = samples.path(40)
        for tie in ties_of(rows):
            rows = shrunk(rows, tie)
        self.assertEqual(rows, [("p0", [])])

    def test_nothing_handed_in_is_changed_and_answers_are_the_askers_own(self):
        for rows in MANY:
            for tie in ties_of(rows):
                if not is_loop(rows, tie):
                    samples.check_own(self, shrunk, fresh(rows), tie)


class Behind(unittest.TestCase):
    """Point [35]: what stands behind a deed."""

    def test_taken_out_here_is_shrunk_in_the_other_net(self):
        for rows in WIDE:
            other = other_net(rows)
            for tie in ties_of(rows):
                if is_bridge(rows, tie):
                    check_refused(self, Loop, shrunk, other, tie)
                else:
                    self.assertEqual(form(other_net(taken_out(rows, tie))), form(shrunk(other, tie)))

    def test_shrunk_here_is_taken_out_of_the_other_net(self):
        for rows in WIDE:
            other = other_net(rows)
            for tie in ties_of(rows):
                if is_loop(rows, tie):
                    check_refused(self, Bridge, taken_out, other, tie)
                else:
                    self.assertEqual(form(other_net(shrunk(rows, tie))), form(taken_out(other, tie)))

    def test_the_number_of_walkers(self):
        more = {"double": (-1, -1), "cut": (1, 0), "round": (0, 1)}
        met = set()
        for rows in WIDE:
            many = len(walkers_of(rows))
            for tie in ties_of(rows) if len(ties_of(rows)) > 1 else []:
                word = kind_of(rows, tie)[0]
                out, small = more[word]
                if not is_bridge(rows, tie):
                    self.assertEqual(len(walkers_of(taken_out(rows, tie))), many + out)
                    met.add((word, "out"))
                if not is_loop(rows, tie):
                    self.assertEqual(len(walkers_of(shrunk(rows, tie))), many + small)
                    met.add((word, "shrunk"))
        self.assertEqual(len(met), 6)

    def test_the_number_of_trees(self):
        for rows in WIDE:
            for tie in ties_of(rows):
                if is_bridge(rows, tie):
                    self.assertEqual(tree_count(shrunk(rows, tie)), tree_count(rows))
                elif is_loop(rows, tie):
                    self.assertEqual(tree_count(taken_out(rows, tie)), tree_count(rows))
                else:
                    both = tree_count(taken_out(rows, tie)) + tree_count(shrunk(rows, tie))
                    self.assertEqual(tree_count(rows), both)

    def test_loops_beside_one_another_come_of_deeds_on_the_bare_point(self):
        rows = tied(tied(BARE, ("a", 0), ("a", 0), "l"), ("a", 0), ("a", 0), "k")
        self.assertEqual(rows, BESIDE)

    def test_four_points_come_of_deeds(self):
        rows = spiked(spiked(spiked(BARE, ("a", 0), "ab", "b"), ("a", 0), "ac", "c"), ("a", 1), "ad", "d")
        self.assertEqual(rows[0], ("a", ["ac", "ad", "ab"]))
        rows = tied(rows, ("c", 0), ("d", 0), "cd")
        for start, goal, tie in [("d", "b", "bd"), ("b", "c", "bc")]:
            pair = [(one, other) for one, other, together in pairs(rows)
                    if together and (one[0], other[0]) == (start, goal)][0]
            rows = tied(rows, pair[0], pair[1], tie)
        self.assertIs(vet(rows), True)
        self.assertEqual(tree_count(rows), tree_count(FOURS))


if __name__ == "__main__":
    unittest.main()
