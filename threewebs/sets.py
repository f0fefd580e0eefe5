"""Sets of ties: sums, rounds and cuts."""

from threewebs.nets import links_of, spread


def summed(one, other):
    """The sum of two sets: what is in just one of them."""
    return sorted(set(one) ^ set(other))


def odd_points(rows, some):
    """The set of the points that have an odd number of ends of a set of ties."""
    return sorted([point for point, ties in rows if len([tie for tie in ties if tie in some]) % 2 == 1])


def is_round(rows, some):
    """Whether each point has an even number of ends of a set of ties."""
    return not odd_points(rows, some)


def cut_of(rows, points):
    """The cut by a set of points: the ties with just one end at these."""
    return [tie for tie, one, other in links_of(rows) if (one in points) != (other in points)]


def side_of(rows, some):
    """The side of a cut, in which the first row's point is not; None of a set that is no cut."""
    links = [(one, other, tie in some) for tie, one, other in links_of(rows)]
    odds = spread(rows[0][0], links)
    # If the set is a cut, each way crosses it at its odd links alone, so no other side can be.
    side = sorted([point for point in odds if odds[point]])
    return side if cut_of(rows, side) == some else None
