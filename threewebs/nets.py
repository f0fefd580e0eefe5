"""Nets told by their rows: how rows are vetted, and their points, ties and ends.

The ties are also told as links between points; what hangs together by links is
found by spreading along them. Sets, trees and doubles lean on this.
"""

from threewebs.errors import Broken, NoNet, NoPlane, NoTie
from threewebs.faces import faces_of
from threewebs.names import is_name
from threewebs.turns import ends_in_order, other_ends, ties_by_end, turned_left, turned_right


def vet(rows):
    """True where the rows tell a net; else they are refused."""
    if not has_good_points(rows):
        raise NoNet("there is no row, or a point's name is no name or stands in two rows")
    if not has_good_ties(rows):
        raise NoNet("a tie's name is no name or doesn't stand just twice")
    if not hangs_together(rows):
        raise Broken("from some point one doesn't come to each other one")
    if not is_plane(rows):
        raise NoPlane("points less ties and with faces are not 2")
    return True


def has_good_points(rows):
    """Whether there is a row, and each row has a point's name of its own."""
    points = points_of(rows)
    if not points or len(set(points)) < len(points):
        return False
    return all([is_name(point) for point in points])


def has_good_ties(rows):
    """Whether each tie has a name that stands just twice."""
    names = [tie for point, ties in rows for tie in ties]
    return all([is_name(tie) and names.count(tie) == 2 for tie in names])


def hangs_together(rows):
    """Whether one comes from the first row's point to all others along ties."""
    links = [(one, other, False) for tie, one, other in links_of(rows)]
    return len(spread(rows[0][0], links)) == len(rows)


def is_plane(rows):
    """Whether rows that hang together lie in the plane."""
    return len(rows) - len(ties_of(rows)) + len(faces_of(rows)) == 2


def points_of(rows):
    """The names of the points, in the order of the rows."""
    return [point for point, ties in rows]


def ties_of(rows):
    """The set of all ties."""
    return sorted({tie for point, ties in rows for tie in ties})


def need_tie(rows, tie):
    """Refuses any text that is no tie's name of the net."""
    if tie not in ties_of(rows):
        raise NoTie("this is no tie's name of the net")


def ends_of(rows):
    """The ends in their order: row by row, and in each row place by place."""
    return ends_in_order(rows)


def tie_at(rows, end):
    """The name of an end's tie."""
    return ties_by_end(rows)[end]


def other_end(rows, end):
    """The other end of an end's tie."""
    return other_ends(rows)[end]


def left_of(rows, end):
    """The end by which one leaves who comes by an end and turns left."""
    return turned_left(end, ends_at(rows, end[0]))


def right_of(rows, end):
    """The end by which one leaves who comes by an end and turns right."""
    return turned_right(end, ends_at(rows, end[0]))


def ends_at(rows, point):
    """The number of ends round a point."""
    return len(dict(rows)[point])


def links_of(rows):
    """Each tie with the points of its two ends, as tuples (tie, point, point) sorted by the ties."""
    met = {}
    links = []
    for point, ties in rows:
        for tie in ties:
            if tie in met:
                links.append((tie, met[tie], point))
            else:
                met[tie] = point
    return sorted(links)


def spread(first, links):
    """A dict of all that one comes to from a first thing along links, told as tuples (one, other, odd).

    It gives for each such thing whether the way found there has an odd number of odd links.
    """
    odds = {first: False}
    waiting = [first]
    while waiting:
        here = waiting.pop()
        for one, other, odd in links:
            for start, goal in ((one, other), (other, one)):
                if start == here and goal not in odds:
                    odds[goal] = odds[here] != odd
                    waiting.append(goal)
    return odds
