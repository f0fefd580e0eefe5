"""Point [38]: the desk, and the rows of the interface."""

import unittest

from threewebs.counting import tree_count
from threewebs.desk import Desk
from threewebs.errors import (
    Bridge, Broken, Loop, NetError, NoCorner, NoFace, NoNet, NoPlane, NoRow, NoText, NoTie, NoWalker, Taken, TooMany,
)
from threewebs.faces import faces_of
from threewebs.kinds import kind_of
from threewebs.nets import ties_of
from threewebs.notes import shown
from threewebs.othernet import other_net
from threewebs.walkers import core_of, walkers_of
from threewebs.web import Web

import samples
from samples import ALL, DENSE, FOURS, LARGE, MANY, MIXED, WOVEN, answer, check_refused, thrown_deed

MIXED_TEXT = "a: x y l l; b: y x s; s: s"
ASKS = ["show", "other", "faces", "walkers", "doubles", "trees", "core 0", "core 1", "kind x", "kind l"]


def desk_with(rows):
    desk = Desk()
    desk.say(f"net {shown(rows)}")
    return desk


def state(desk):
    return [answer(desk.say, row) for row in ASKS]


class Asker(unittest.TestCase):
    def refused(self, by, desk, row):
        """Refused so, with nothing changed."""
        before = state(desk)
        check_refused(self, by, desk.say, row)
        self.assertEqual(state(desk), before, row)

    def told(self, desk, row, wanted):
        text = desk.say(row)
        self.assertIs(type(text), str)
        self.assertEqual(text, wanted, row)


class TheBarePoint(Asker):
    def test_what_a_new_desk_keeps(self):
        desk = Desk()
        for row, wanted in [("show", "a:"), ("other", "f0:"), ("faces", "1"), ("walkers", "0"), ("doubles", "1"),
                            ("trees", "1")]:
            self.told(desk, row, wanted)
        self.refused(NoWalker, desk, "core 0")
        self.refused(NoTie, desk, "kind a")
        self.refused(NoTie, desk, "out a")
        self.refused(NoTie, desk, "shrink a")

    def test_deeds(self):
        desk = Desk()
        self.refused(NoCorner, desk, "spike a 1 x b")
        self.refused(NoCorner, desk, "link a 0 b 0 x")
        self.told(desk, "link a 0 a 0 x", "ok")
        self.told(desk, "show", "a: x x")
        self.told(desk, "out x", "ok")
        self.told(desk, "show", "a:")
        self.told(desk, "spike a 0 x b", "ok")
        self.told(desk, "show", "a: x; b: x")
        self.told(desk, "shrink x", "ok")
        self.told(desk, "show", "a:")

    def test_two_desks(self):
        one, other = Desk(), Desk()
        one.say("link a 0 a 0 x")
        self.told(other, "show", "a:")
        other.say("net b: y; c: y")
        self.told(one, "show", "a: x x")
        self.told(Desk(), "show", "a:")


class Rows(Asker):
    def test_each_row(self):
        desk = Desk()
        self.told(desk, f"net {MIXED_TEXT}", "ok")
        for row, wanted in [
            ("show", MIXED_TEXT), ("other", "f0: x s s y l; f1: y x; f2: l"), ("faces", "3"), ("walkers", "2"),
            ("kind x", "double"), ("kind s", "cut"), ("kind l", "round"), ("core 0", "x y"), ("core 1", "x y"),
            ("doubles", "2"), ("trees", "2"), ("link a 0 s 0 t", "ok"), ("show", "a: t x y l l; b: y x s; s: t s"),
            ("spike s 1 u p", "ok"), ("show", "a: t x y l l; b: y x s; s: t u s; p: u"), ("out x", "ok"),
            ("show", "a: t y l l; b: y s; s: t u s; p: u"), ("shrink t", "ok"), ("show", "a: u s y l l; b: y s; p: u"),
        ]:
            self.told(desk, row, wanted)

    def test_as_the_functions_answer(self):
        for rows in ALL + WOVEN + DENSE:
            desk = desk_with(rows)
            walkers = walkers_of(rows)
            self.told(desk, "show", shown(rows))
            self.told(desk, "other", shown(other_net(rows)))
            self.told(desk, "faces", str(len(faces_of(rows))))
            self.told(desk, "walkers", str(len(walkers)))
            self.told(desk, "trees", str(tree_count(rows)))
            self.told(desk, "doubles", str(2 ** max(len(walkers) - 1, 0)))
            for number, walker in enumerate(walkers):
                self.told(desk, f"core {number}", " ".join(core_of(rows, walker)))
            for tie in ties_of(rows)[:9]:
                self.told(desk, f"kind {tie}", kind_of(rows, tie)[0])

    def test_a_core_without_ties(self):
        desk = desk_with(samples.star(40))
        self.told(desk, "core 0", "")
        self.refused(NoWalker, desk, "core 1")

    def test_refusals(self):
        desk = desk_with(MIXED)
        for by, row in [
            (NoCorner, "link nope 0 a 0 new"), (NoCorner, "link a 4 a 0 new"), (NoCorner, "link a 0 a 99 new"),
            (NoFace, "link a 1 s 0 new"), (Taken, "link a 0 a 0 x"), (Taken, "link a 0 a 0 X"),
            (Taken, "link a 0 a 0 abcdefghi"), (NoCorner, "spike a 4 new new"), (Taken, "spike a 0 x new"),
            (Taken, "spike a 0 new a"), (Taken, "spike a 0 New new"), (Taken, "spike a 0 new new!"),
            (NoTie, "out a"), (Bridge, "out s"), (NoTie, "shrink b"), (Loop, "shrink l"), (NoTie, "kind a"),
            (NoTie, "kind X"), (NoWalker, "core 2"), (NoWalker, "core 99"), (NoText, "net a"), (NoText, "net a:x"),
            (NoText, "net A:"), (NoNet, "net a: x"), (NoNet, "net a:; a:"), (Broken, "net a:; b:"),
            (Broken, "net a: x x; b: y y"), (NoPlane, "net a: x y x y"), (NoNet, "net a: x x x; b:"),
        ]:
            self.refused(by, desk, row)

    def test_words_without_signs(self):
        desk = desk_with(MIXED)
        # The count of words is right in these; a word without signs is no name and no number.
        for by, row in [
            (NoTie, "kind "), (NoTie, "out "), (NoTie, "shrink "), (NoRow, "core "), (NoCorner, "link  0 a 0 x"),
            (NoRow, "link a  a 0 new"), (NoCorner, "link a 0  0 new"), (NoRow, "link a 0 a  new"),
            (Taken, "link a 0 a 0 "), (NoCorner, "spike  0 new new"), (NoRow, "spike a  new new"),
            (Taken, "spike a 0  new"), (Taken, "spike a 0 new "),
        ]:
            self.refused(by, desk, row)

    def test_no_rows(self):
        desk = desk_with(MIXED)
        for row in [
            "", " ", "  ", "nope", "Show", "SHOW", "show ", " show", "show show", "show  ", "other ", " other",
            "faces ", "faces 0", " faces", "walkers ", "walkers 1", "doubles ", "doubles 1", "trees ", "trees 1",
            " trees", "kind", "kind x y", "kind  x", " kind x", "kind x ", "core", "core 0 1", "core  0", " core 0",
            "core 0 ", "out", "out x y", "out  x", "out x ", " out x", "shrink", "shrink x y", "shrink  x",
            "shrink x ", " shrink x", "link", "link a", "link a 0", "link a 0 a", "link a 0 a 0",
            "link a 0 a 0 new x", "link  a 0 a 0 new", "link a 0 a 0 new ", " link a 0 a 0 new", "link a 0 a  0 new",
            "spike", "spike a", "spike a 0", "spike a 0 new", "spike a 0 new new x", "spike a 0 new  new",
            " spike a 0 new new", "spike a 0 new new ", "spike  a 0 new new", "net", " net a:", "nets a:", "Net a:",
            "neta:", "links a 0 a 0 new", "show;", "rows", "cores 0", "x" * 4000, " " * 4000, "link " * 800,
            "take_out x", "many_trees", "kind\tx", "say show", "~", "[]",
        ]:
            self.refused(NoRow, desk, row)

    def test_words_too_few_and_too_many(self):
        counts = {"link": 6, "spike": 5, "out": 2, "shrink": 2, "kind": 2, "core": 2, "show": 1, "other": 1,
                  "faces": 1, "walkers": 1, "doubles": 1, "trees": 1}
        for first, wanted in counts.items():
            for count in range(1, 10):
                for word in ["x", "0", ""]:
                    desk = desk_with(MIXED)
                    told = answer(desk.say, " ".join([first] + [word] * (count - 1)))
                    if count != wanted:
                        self.assertIs(told, NoRow)
                    elif first in ["out", "kind", "shrink"] and word == "x":
                        self.assertIsInstance(told, str)

    def test_places_and_numbers(self):
        desk = desk_with(MIXED)
        for word in ["00", "01", "09", "000", "001", "100", "999", "-1", "-0", "+1", "+0", "1.", "1.0", "0x", "x", "a",
                     "0x1", "1_0", "1e1", "", "12345678", "9" * 300, "--", "#1", "~", "-", "1-"]:
            self.refused(NoRow, desk, f"core {word}")
            self.refused(NoRow, desk, f"spike a {word} new new")
            self.refused(NoRow, desk, f"link a {word} a 0 new")
            self.refused(NoRow, desk, f"link a 0 a {word} new")
            # The form of a row is asked ahead of all else.
            self.refused(NoRow, desk, f"link nope 0 nope {word} x")
            self.refused(NoRow, desk, f"link nope 77 a {word} X")
            self.refused(NoRow, desk, f"spike nope {word} x a")

    def test_places_of_one_and_two_figures(self):
        rows = samples.loops_within(39)
        for place in [0, 1, 9, 10, 11, 38, 39, 76, 77]:
            desk = desk_with(rows)
            self.told(desk, f"link a {place} a {place} new", "ok")
            web = Web(rows)
            web.link(("a", place), ("a", place), "new")
            self.told(desk, "show", shown(web.rows()))
        for place in [78, 79, 80, 99]:
            self.refused(NoCorner, desk_with(rows), f"spike a {place} new new")

    def test_each_number_of_a_walker(self):
        rows = samples.chain(20)
        desk = desk_with(rows)
        for number in range(21):
            self.told(desk, f"core {number}", " ".join(core_of(rows, walkers_of(rows)[number])))
        for number in range(21, 100):
            self.refused(NoWalker, desk, f"core {number}")


class Nets(Asker):
    def test_all_behind_the_blank_is_the_text(self):
        desk = desk_with(MIXED)
        for row in ["net ", "net  ", "net  a:", "net a: ", "net  a: x x", "net a: x x ", "net a:  x x", "net a: x x;",
                    "net a: x;b: x", "net a:x x", "net net a:", "net a", "net :", "net ; ", "net a: X X",
                    "net abcdefghi:", "net a: abcdefghi abcdefghi", "net a: x x; "]:
            self.refused(NoText, desk, row)

    def test_a_net_is_kept(self):
        desk = Desk()
        for rows in MANY:
            self.told(desk, f"net {shown(rows)}", "ok")
            self.told(desk, "show", shown(rows))

    def test_words_of_rows_as_names(self):
        desk = Desk()
        self.told(desk, "net net: show show", "ok")
        self.told(desk, "show", "net: show show")
        self.told(desk, "kind show", "round")
        self.told(desk, "net show:", "ok")
        self.told(desk, "link show 0 show 0 link", "ok")
        self.told(desk, "out link", "ok")

    def test_refused_first_with_no_text_then_as_vetted(self):
        desk = desk_with(FOURS)
        self.refused(NoText, desk, "net a: x; a: x;")
        self.refused(NoNet, desk, "net a: x; a: x")
        self.refused(NoNet, desk, "net a: x y x; b:")
        self.refused(Broken, desk, "net a: x y x y; b:")
        self.refused(NoPlane, desk, "net a: x y z; b: x y z")

    def test_forty_ties(self):
        for rows in [samples.chain(20), samples.twins(40), samples.star(40), samples.loops_within(40),
                     samples.wheel(20), samples.grid(5, 5)] + LARGE[:3]:
            desk = desk_with(rows)
            point = rows[0][0]
            self.refused(TooMany, desk, f"link {point} 0 {point} 0 new")
            self.refused(TooMany, desk, f"spike {point} 0 new newp")
            self.refused(Taken, desk, f"link {point} 0 {point} 0 {ties_of(rows)[0]}")
            self.refused(Taken, desk, f"spike {point} 0 new {point}")
            self.told(desk, "doubles", str(2 ** (len(walkers_of(rows)) - 1)))

    def test_however_many_doubles_and_trees(self):
        desk = desk_with(samples.chain(20))
        self.told(desk, "walkers", "21")
        self.told(desk, "doubles", "1048576")
        self.told(desk, "trees", "1048576")
        desk = desk_with(samples.chain(9))
        self.told(desk, "doubles", "512")
        desk = desk_with(samples.wheel(20))
        self.told(desk, "doubles", "1")
        self.told(desk, "trees", "228826125")


class ManyRows(Asker):
    def test_many_deeds(self):
        words = {"link": "link", "spike": "spike", "take_out": "out", "shrink": "shrink"}
        refusals = set()
        for seed in range(8):
            dice = samples.Dice(seed + 200)
            desk, web = Desk(), Web([("a", [])])
            for step in range(60):
                name, *things = thrown_deed(dice, web.rows())
                parts = [f"{part[0]} {part[1]}" if isinstance(part, tuple) else part for part in things]
                wanted = answer(getattr(web, name), *things)
                told = answer(desk.say, " ".join([words[name]] + parts))
                self.assertEqual(told, "ok" if wanted is None else wanted)
                refusals.add(wanted)
                self.told(desk, "show", shown(web.rows()))
                self.told(desk, "walkers", str(len(web.walkers())))
                self.told(desk, "trees", str(web.many_trees()))
        self.assertEqual(refusals, {None, NoCorner, NoFace, Taken, NoTie, Bridge, Loop})

    def test_each_refusal_is_a_net_error_and_a_value_error(self):
        desk = desk_with(MIXED)
        for row in ["nope", "net ", "net a: x", "net a:; b:", "net a: x y x y", "core 9", "out s", "shrink l", "out q"]:
            self.assertTrue(issubclass(answer(desk.say, row), NetError))
            with self.assertRaises(ValueError):
                desk.say(row)


if __name__ == "__main__":
    unittest.main()
