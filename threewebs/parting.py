"""Parting: a set of ties is the sum of a round and a cut, or is odd with a double."""

from threewebs.doubles import cores_of
from threewebs.nets import points_of
from threewebs.sets import cut_of, odd_points, summed


def parted(rows, some):
    """("parts", round, cut) whose sum is the set, or ("odd", double) with an odd number of ties in common."""
    for core in cores_of(rows):
        # All doubles are sums of cores; so where the set is odd with a double, it is odd with a core.
        if len([tie for tie in core if tie in some]) % 2 == 1:
            return ("odd", core)
    cut = cut_of(rows, points_by(rows, odd_points(rows, some)))
    return ("parts", summed(some, cut), cut)


def points_by(rows, odds):
    """A set of points whose cut has an odd number of ends at just these points; there has to be one."""
    steps = []
    for point in points_of(rows):
        tried, left = lowered(steps, [point], odd_points(rows, cut_of(rows, [point])))
        if left:
            steps.append((tried, left))
    return lowered(steps, [], odds)[0]


def lowered(steps, points, odds):
    """Points and their odds, summed with steps until the odds have the first of no step's odds in them."""
    # No step has the first of an earlier one, so what is gone from the odds doesn't come back.
    for tried, left in steps:
        if left[0] in odds:
            points = summed(points, tried)
            odds = summed(odds, left)
    return points, odds
