"""Point [36]: webs; with [2] and [3] behind many deeds."""

import copy
import unittest

from threewebs.counting import tree_count
from threewebs.deeds import shrunk, spiked, taken_out, tied
from threewebs.doubles import doubles_of
from threewebs.errors import (
    Bridge, Broken, Loop, NoCorner, NoFace, NoNet, NoPlane, NoTie, Taken, TooMany,
)
from threewebs.faces import faces_of
from threewebs.kinds import kind_of
from threewebs.nets import ties_of, vet
from threewebs.trees import trees_of
from threewebs.walkers import walkers_of
from threewebs.web import Web

import samples
from samples import ALL, BARE, DENSE, FOURS, LARGE, LOOP, MANY, MIXED, TIE, TWINS, WOVEN
from samples import answer, check_refused, fresh, thrown_deed

DEEDS = {"link": tied, "spike": spiked, "take_out": taken_out, "shrink": shrunk}
NO_NETS = [
    (NoNet, []), (NoNet, [("A", [])]), (NoNet, [("a", []), ("a", [])]), (NoNet, [("a", ["x"])]),
    (NoNet, [("a", ["x", "x", "x"])]), (NoNet, [("a", ["", ""])]), (NoNet, [("", [])]),
    (NoNet, [("a", ["x y", "x y"])]), (NoNet, [("a", []), ("b", ["x"])]),
    (Broken, [("a", []), ("b", [])]), (Broken, [("a", ["x", "x"]), ("b", ["y", "y"])]),
    (Broken, [("a", ["x", "y", "x", "y"]), ("b", [])]),
    (NoPlane, [("a", ["x", "y", "x", "y"])]), (NoPlane, [("a", ["x", "y", "z"]), ("b", ["x", "y", "z"])]),
]


def asked_of_web(web):
    """All that a web tells, but its rows."""
    kinds = [answer(web.kind, tie) for tie in ties_of(web.rows()) + ["", "nope"]]
    return [answer(ask) for ask in [web.faces, web.walkers, web.doubles, web.trees, web.many_trees]] + kinds


def asked_of_functions(rows):
    kinds = [answer(kind_of, rows, tie) for tie in ties_of(rows) + ["", "nope"]]
    return [answer(ask, rows) for ask in [faces_of, walkers_of, doubles_of, trees_of, tree_count]] + kinds


class Webs(unittest.TestCase):
    def test_the_rows_that_were_handed_in(self):
        for rows in ALL:
            self.assertEqual(Web(fresh(rows)).rows(), rows)

    def test_refused_as_rows_are_vetted(self):
        for by, rows in NO_NETS:
            check_refused(self, by, Web, rows)

    def test_deeds_tell_nothing(self):
        web = Web(fresh(BARE))
        self.assertIsNone(web.spike(("a", 0), "x", "b"))
        self.assertEqual(web.rows(), TIE)
        self.assertIsNone(web.link(("b", 0), ("a", 0), "y"))
        self.assertEqual(web.rows(), [("a", ["y", "x"]), ("b", ["y", "x"])])
        self.assertIsNone(web.take_out("x"))
        self.assertEqual(web.rows(), [("a", ["y"]), ("b", ["y"])])
        self.assertIsNone(web.shrink("y"))
        self.assertEqual(web.rows(), BARE)

    def test_what_is_told(self):
        web = Web(fresh(MIXED))
        self.assertEqual(web.faces(), faces_of(MIXED))
        self.assertEqual(web.walkers(), walkers_of(MIXED))
        self.assertEqual(web.doubles(), [[], ["x", "y"]])
        self.assertEqual(web.trees(), [["s", "x"], ["s", "y"]])
        self.assertEqual(web.many_trees(), 2)
        self.assertEqual(web.kind("l"), ("round", ["l"]))
        check_refused(self, NoTie, web.kind, "nope")

    def test_as_the_functions_answer(self):
        for rows in MANY + WOVEN + DENSE + LARGE[:4] + [samples.chain(20), samples.ring(40)]:
            self.assertEqual(asked_of_web(Web(fresh(rows))), asked_of_functions(rows))

    def test_too_many_to_tell(self):
        web = Web(samples.chain(20))
        check_refused(self, TooMany, web.doubles)
        check_refused(self, TooMany, web.trees)
        self.assertEqual(web.many_trees(), 2 ** 20)
        self.assertEqual(len(web.walkers()), 21)
        self.assertEqual(web.rows(), samples.chain(20))

    def test_what_is_refused_changes_nothing(self):
        deeds = [
            (NoCorner, "link", ("a", 9), ("a", 0), "new"), (NoCorner, "link", ("a", 0), ("a", -1), "new"),
            (NoFace, "link", ("a", 1), ("s", 0), "new"), (Taken, "link", ("a", 0), ("a", 0), "x"),
            (Taken, "link", ("a", 0), ("a", 0), "X"), (NoCorner, "spike", ("t", 0), "new", "new"),
            (Taken, "spike", ("a", 0), "x", "new"), (Taken, "spike", ("a", 0), "new", "b"),
            (NoTie, "take_out", "nope"), (Bridge, "take_out", "s"), (NoTie, "shrink", "nope"), (Loop, "shrink", "l"),
        ]
        web = Web(fresh(MIXED))
        told = asked_of_web(web)
        for by, name, *things in deeds:
            check_refused(self, by, getattr(web, name), *things)
            self.assertEqual(web.rows(), MIXED)
            self.assertEqual(asked_of_web(web), told)

    def test_forty_ties_and_no_more(self):
        web = Web(samples.twins(39))
        web.link(("a", 0), ("a", 0), "new")
        standing = web.rows()
        check_refused(self, TooMany, web.link, ("a", 0), ("a", 0), "newer")
        check_refused(self, TooMany, web.spike, ("a", 0), "newer", "p")
        self.assertEqual(web.rows(), standing)
        web.take_out("new")
        web.spike(("a", 0), "newer", "p")
        self.assertEqual(len(ties_of(web.rows())), 40)

    def test_two_webs_have_nothing_to_do_with_one_another(self):
        rows = fresh(TWINS)
        one, other = Web(rows), Web(rows)
        one.take_out("x")
        self.assertEqual(other.rows(), TWINS)
        third = Web(other.rows())
        other.shrink("y")
        self.assertEqual([one.rows(), other.rows(), third.rows()],
                         [[("a", ["y"]), ("b", ["y"])], [("a", ["x", "x"])], TWINS])
        self.assertEqual(rows, TWINS)


class Own(unittest.TestCase):
    """Point [2]: what was handed in and what is told is the asker's own."""

    def test_rows_changed_behind(self):
        for rows in MANY:
            handed = fresh(rows)
            web = Web(handed)
            self.assertEqual(handed, rows)
            for point, ties in handed:
                ties.append("spoilt")
            handed.clear()
            self.assertEqual(web.rows(), rows)
            self.assertEqual(asked_of_web(web), asked_of_functions(rows))

    def test_what_is_told_may_be_changed(self):
        for rows in MANY:
            web = Web(fresh(rows))
            self.spoil(web)
            self.assertEqual(web.rows(), rows)
            if ties_of(rows):
                web.link((rows[0][0], 0), (rows[0][0], 0), "new")
                self.spoil(web)
                self.assertEqual(web.rows(), tied(rows, (rows[0][0], 0), (rows[0][0], 0), "new"))

    def spoil(self, web):
        told = [web.rows(), asked_of_web(web)]
        kept = copy.deepcopy(told)
        for each in samples.lists_within(told):
            each.reverse()
            each.append("spoilt")
        self.assertEqual([web.rows(), asked_of_web(web)], kept)

    def test_what_was_told_stays_behind_deeds(self):
        web = Web(fresh(FOURS))
        told = [web.rows(), asked_of_web(web)]
        kept = copy.deepcopy(told)
        web.take_out("ab")
        web.shrink("cd")
        web.spike(("a", 0), "new", "new")
        web.link(("new", 0), ("new", 0), "newer")
        self.assertEqual(told, kept)

    def test_lists_of_their_own(self):
        for rows in MANY:
            web = Web(fresh(rows))
            lists = samples.lists_within([web.rows(), web.rows(), asked_of_web(web), asked_of_web(web)])
            self.assertEqual(len({id(each) for each in lists}), len(lists))


class ManyDeeds(unittest.TestCase):
    def run_deeds(self, rows, seed, many):
        """A web against the functions, deed by deed; told are the refusals met, True for none."""
        dice = samples.Dice(seed)
        web = Web(fresh(rows))
        met = []
        for step in range(many):
            name, *things = thrown_deed(dice, rows)
            wanted = answer(DEEDS[name], rows, *things)
            told = answer(getattr(web, name), *things)
            if isinstance(wanted, type):
                self.assertIs(told, wanted)
            else:
                self.assertIsNone(told)
                rows = wanted
            met.append(wanted if isinstance(wanted, type) else True)
            self.assertEqual(web.rows(), rows)
            self.assertIs(vet(rows), True)
            if step % 4 == 0:
                self.assertEqual(asked_of_web(web), asked_of_functions(rows))
        return met

    def test_from_the_bare_point_on(self):
        met = set()
        for seed in range(12):
            met |= set(self.run_deeds(fresh(BARE), seed, 60))
        self.assertEqual(met, {True, NoCorner, NoFace, Taken, NoTie, Bridge, Loop})

    def test_from_other_nets_on(self):
        for seed, rows in enumerate([LOOP, TIE, TWINS, FOURS, MIXED] + WOVEN[::6]):
            self.run_deeds(fresh(rows), seed + 70, 40)

    def test_about_forty_ties(self):
        met = set()
        for seed, rows in enumerate(LARGE[:3] + DENSE[-2:] + [samples.chain(20)]):
            met |= set(self.run_deeds(fresh(rows), seed + 90, 30))
        self.assertLessEqual({True, TooMany, Bridge, Loop, NoFace}, met)


if __name__ == "__main__":
    unittest.main()
