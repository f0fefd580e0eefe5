"""Faces: the lists of ends by which one goes along a tie, turns left, and so on."""

from threewebs.turns import ends_in_order, left_steps


def faces_of(rows):
    """The faces, each begun with its first end in the order of ends, in the order of these."""
    ends = ends_in_order(rows)
    if not ends:
        # The bare point has no end to begin with, and yet a face.
        return [[]]
    steps = left_steps(rows)
    told = set()
    faces = []
    for first in ends:
        if first not in told:
            face = face_from(steps, first)
            faces.append(face)
            for end in face:
                told.add(end)
    return faces


def face_from(steps, first):
    """The face that begins with an end."""
    face = [first]
    end = steps[first]
    while end != first:
        face.append(end)
        end = steps[end]
    return face
