"""Deeds: ties are put in, taken out and shrunk. Each deed tells the rows of the net that comes of it."""

from threewebs.errors import Bridge, Loop, NoCorner, NoFace, Taken, TooMany
from threewebs.faces import faces_of
from threewebs.names import is_name
from threewebs.nets import ends_of, hangs_together, need_tie, points_of, ties_of

MOST_TIES = 40


def tied(rows, one, other, tie):
    """The rows with a tie put in between two corners of one face."""
    need_corner(rows, one)
    need_corner(rows, other)
    need_one_face(rows, one, other)
    need_free_name(ties_of(rows), tie)
    need_room(rows)
    return with_ends(rows, [one, other], tie)


def spiked(rows, one, tie, point):
    """The rows with a tie put in from a corner to a new point."""
    need_corner(rows, one)
    need_free_name(ties_of(rows), tie)
    need_free_name(points_of(rows), point)
    need_room(rows)
    return with_ends(rows, [one], tie) + [(point, [tie])]


def taken_out(rows, tie):
    """The rows without a tie."""
    need_tie(rows, tie)
    rest = [(point, [each for each in ties if each != tie]) for point, ties in rows]
    if not hangs_together(rest):
        raise Bridge("without this tie the net would not hang together")
    return rest


def shrunk(rows, tie):
    """The rows with a tie's two points made one, without the tie."""
    need_tie(rows, tie)
    holders = [point for point, ties in rows if tie in ties]
    if len(holders) == 1:
        raise Loop("both ends of this tie are at one point")
    stays, goes = holders
    lists = dict(rows)
    both = joined(lists[stays], lists[goes], tie)
    return [(point, both if point == stays else list(ties)) for point, ties in rows if point != goes]


def joined(ties, others, tie):
    """A point's list, in which a tie's end gives way to the ends of the tie's other point."""
    place = ties.index(tie)
    turn = others.index(tie)
    return ties[:place] + others[turn + 1:] + others[:turn] + ties[place + 1:]


def with_ends(rows, corners, tie):
    """The rows with an end of a tie put in at each of these corners."""
    return [(point, put_in(ties, [place for at, place in corners if at == point], tie)) for point, ties in rows]


def put_in(ties, places, tie):
    """A list with a name put in ahead of each of these places."""
    longer = list(ties)
    # From behind, so that the places ahead stay those of the list as it was.
    for place in sorted(places, reverse=True):
        longer.insert(place, tie)
    return longer


def need_corner(rows, corner):
    """Refuses what is no corner of the net."""
    # A corner is told as an end is, but the bare point has a corner and no end.
    if corner not in (ends_of(rows) or [(rows[0][0], 0)]):
        raise NoCorner("this is no corner of the net")


def need_one_face(rows, one, other):
    """Refuses two corners of unlike faces."""
    if one != other and not any([one in face and other in face for face in faces_of(rows)]):
        raise NoFace("these corners lie in unlike faces")


def need_free_name(names, new):
    """Refuses a new name that is among the names or no name."""
    if new in names or not is_name(new):
        raise Taken("this name is taken, or no name")


def need_room(rows):
    """Refuses one more tie where there are as many as may be."""
    if len(ties_of(rows)) >= MOST_TIES:
        raise TooMany("the net has forty ties")
