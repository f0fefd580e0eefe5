"""Points [11] and [12]: the other net."""

import unittest

from threewebs.faces import faces_of
from threewebs.nets import ends_of, tie_at, ties_of, vet
from threewebs.othernet import other_net

import samples
from samples import ALL, BARE, BIG, LOOP, MANY, MIXED, TIE, TRIPLE, TWINS


def begun_alike(items):
    """A turn, begun where it sorts first."""
    return min([items[k:] + items[:k] for k in range(len(items))] or [[]])


class OtherNet(unittest.TestCase):
    def test_of_small_nets(self):
        self.assertEqual(other_net(BARE), [("f0", [])])
        self.assertEqual(other_net(LOOP), [("f0", ["x"]), ("f1", ["x"])])
        self.assertEqual(other_net(TIE), [("f0", ["x", "x"])])
        self.assertEqual(other_net(TWINS), [("f0", ["x", "y"]), ("f1", ["y", "x"])])
        self.assertEqual(other_net(TRIPLE), [("f0", ["x", "z"]), ("f1", ["y", "x"]), ("f2", ["z", "y"])])
        self.assertEqual(other_net(MIXED), [("f0", ["x", "s", "s", "y", "l"]), ("f1", ["y", "x"]), ("f2", ["l"])])

    def test_a_row_for_each_face_in_order(self):
        for rows in ALL:
            faces = faces_of(rows)
            named = [(f"f{k}", [tie_at(rows, end) for end in face]) for k, face in enumerate(faces)]
            self.assertEqual(other_net(rows), named)

    def test_names_up_to_the_last_face(self):
        self.assertEqual([row[0] for row in other_net(samples.loops_beside(40))], [f"f{k}" for k in range(41)])

    def test_what_is_told_is_the_rows_of_a_net(self):
        for rows in ALL:
            self.assertIs(vet(other_net(rows)), True)
            self.assertEqual(ties_of(other_net(rows)), ties_of(rows))
            for row in other_net(rows):
                self.assertEqual([type(row), type(row[0]), type(row[1])], [tuple, str, list])

    def test_a_tie_ties_the_faces_of_its_two_ends(self):
        for rows in MANY:
            for tie in ties_of(rows):
                faces = [f"f{k}" for k, face in enumerate(faces_of(rows)) for end in face if tie_at(rows, end) == tie]
                self.assertEqual(samples.slow_points(other_net(rows), tie), faces)

    def test_faces_of_the_other_net_are_the_turns_round_the_points(self):
        for rows in ALL:
            faces = faces_of(rows)
            stands_for = {(f"f{k}", place): end for k, face in enumerate(faces) for place, end in enumerate(face)}
            found = [begun_alike([stands_for[end] for end in face]) for face in faces_of(other_net(rows))]
            turns = [begun_alike([(point, place) for place in range(len(ties))]) for point, ties in rows]
            self.assertEqual(sorted(found), sorted(turns))

    def test_the_other_net_of_the_other_net(self):
        for rows in ALL:
            twice = other_net(other_net(rows))
            self.assertEqual(len(twice), len(rows))
            self.assertEqual(len(ends_of(twice)), len(ends_of(rows)))
            self.assertEqual(sorted(begun_alike(ties) for point, ties in twice),
                             sorted(begun_alike(ties) for point, ties in rows))

    def test_answers_are_the_askers_own(self):
        for rows in MANY + BIG:
            samples.check_own(self, other_net, samples.fresh(rows))


if __name__ == "__main__":
    unittest.main()
