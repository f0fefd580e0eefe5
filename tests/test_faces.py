"""Points [8] and [10]: the faces of a net; and of [33], when a net without a tie would not hang together."""

import unittest

from threewebs.faces import faces_of
from threewebs.nets import ends_of, left_of, other_end, ties_of

import samples
from samples import ALL, BARE, BESIDE, BIG, LARGE, LOOP, MANY, MIXED, TIE, TRIPLE, TWINS, WITHIN


def told(rows):
    """The faces with each end told as one text."""
    return [[f"{point}{place}" for point, place in face] for face in faces_of(rows)]


class Faces(unittest.TestCase):
    def test_the_bare_point_has_one_face_without_ends(self):
        self.assertEqual(faces_of(BARE), [[]])
        self.assertEqual(faces_of([("z9", [])]), [[]])

    def test_faces_of_small_nets(self):
        self.assertEqual(told(LOOP), [["a0"], ["a1"]])
        self.assertEqual(told(TIE), [["a0", "b0"]])
        self.assertEqual(told(TWINS), [["a0", "b0"], ["a1", "b1"]])
        self.assertEqual(told(TRIPLE), [["a0", "b0"], ["a1", "b2"], ["a2", "b1"]])
        self.assertEqual(told(WITHIN), [["a0"], ["a1", "a3"], ["a2"]])
        self.assertEqual(told(BESIDE), [["a0", "a2"], ["a1"], ["a3"]])
        self.assertEqual(told(MIXED), [["a0", "b2", "s0", "b0", "a2"], ["a1", "b1"], ["a3"]])

    def test_as_reckoned_slowly(self):
        for rows in MANY + LARGE[:4]:
            self.assertEqual(faces_of(rows), samples.slow_faces(rows))

    def test_each_end_in_just_one_face(self):
        for rows in ALL:
            self.assertEqual(sorted(end for face in faces_of(rows) for end in face), sorted(ends_of(rows)))

    def test_beginnings_and_order(self):
        for rows in ALL:
            if ends_of(rows):
                order = {end: number for number, end in enumerate(ends_of(rows))}
                faces = [[order[end] for end in face] for face in faces_of(rows)]
                self.assertEqual([face[0] for face in faces], [min(face) for face in faces])
                self.assertEqual([face[0] for face in faces], sorted(face[0] for face in faces))

    def test_along_the_tie_and_to_the_left(self):
        for rows in ALL:
            for face in faces_of(rows):
                for end, behind in zip(face, face[1:] + face[:1]):
                    self.assertEqual(left_of(rows, other_end(rows, end)), behind)

    def test_points_less_ties_and_with_faces_are_two(self):
        for rows in ALL:
            self.assertEqual(len(rows) - len(ties_of(rows)) + len(faces_of(rows)), 2)

    def test_both_ends_of_a_tie_in_one_face_just_where_it_is_a_bridge(self):
        seen = set()
        for rows in ALL:
            ties = ties_of(rows)
            where = {end: number for number, face in enumerate(faces_of(rows)) for end in face}
            for end in ends_of(rows):
                tie = samples.slow_tie(rows, end)
                bridge = samples.slow_groups(rows, [each for each in ties if each != tie]) > 1
                self.assertIs(where[end] == where[other_end(rows, end)], bridge, (rows, tie))
                seen.add(bridge)
        self.assertEqual(seen, {True, False})

    def test_a_face_is_a_list_of_ends(self):
        for rows in MANY:
            for face in faces_of(rows):
                self.assertIs(type(face), list)
                for end in face:
                    self.assertEqual([type(end), type(end[0]), type(end[1])], [tuple, str, int])

    def test_answers_are_the_askers_own(self):
        for rows in MANY + BIG:
            samples.check_own(self, faces_of, samples.fresh(rows))


if __name__ == "__main__":
    unittest.main()
