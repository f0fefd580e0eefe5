"""Doubles: the sets of ties that are both a round and a cut."""

from threewebs.errors import NoDouble, NoWalker, TooMany
from threewebs.nets import spread, ties_of
from threewebs.sets import is_round, side_of, summed
from threewebs.walkers import core_of, walkers_of

MOST_WALKERS = 9


def is_double(rows, some):
    """Whether a set of ties is a round and a cut."""
    return is_round(rows, some) and side_of(rows, some) is not None


def double_by(rows, numbers):
    """The sum of the cores of the walkers of these numbers."""
    cores = cores_of(rows)
    if any([number < 0 or number >= len(cores) for number in numbers]):
        raise NoWalker("there is no walker of such a number")
    double = []
    for number in numbers:
        double = summed(double, cores[number])
    return double


def numbers_by(rows, some):
    """The numbers of walkers, without 0, whose cores sum up to a double."""
    if not is_double(rows, some):
        raise NoDouble("this set is not both a round and a cut")
    cores = cores_of(rows)
    links = []
    for tie in ties_of(rows):
        # A tie is in the cores of two walkers or of none; it is in the sum just where one of the two is chosen.
        bearers = [number for number, core in enumerate(cores) if tie in core]
        if bearers:
            links.append((bearers[0], bearers[1], tie in some))
    chosen = spread(0, links)
    return sorted([number for number in chosen if chosen[number]])


def doubles_of(rows):
    """All doubles, sorted."""
    cores = cores_of(rows)
    if len(cores) > MOST_WALKERS:
        raise TooMany("there are more than nine walkers")
    doubles = [[]]
    # Each double is told once by walkers without the first one.
    for core in cores[1:]:
        doubles = doubles + [summed(double, core) for double in doubles]
    return sorted(doubles)


def cores_of(rows):
    """The cores of all walkers, in the order of their numbers."""
    return [core_of(rows, walker) for walker in walkers_of(rows)]
