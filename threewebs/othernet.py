"""The other net, which has a point for each face of the net."""

from threewebs.faces import faces_of
from threewebs.turns import ties_by_end


def other_net(rows):
    """The rows of the other net: for each face the names of the ties of its ends."""
    names = ties_by_end(rows)
    return [(f"f{number}", [names[end] for end in face]) for number, face in enumerate(faces_of(rows))]
