"""Walkers: they go along a tie, turn left, go along a tie, turn right, and so on."""

from threewebs.nets import need_tie
from threewebs.turns import ends_in_order, left_steps, right_steps, ties_by_end


def walkers_of(rows):
    """The walkers, each as the list of the ends from which it goes along."""
    lefts = left_steps(rows)
    rights = right_steps(rows)
    names = ties_by_end(rows)
    told = set()
    walkers = []
    for first in ends_in_order(rows):
        # The way back has its left turns behind the same ties; so the ties tell of both ways.
        if names[first] not in told:
            walker = walker_from(lefts, rights, first)
            walkers.append(walker)
            for end in walker[::2]:
                told.add(names[end])
    return walkers


def walker_from(lefts, rights, first):
    """The walker that begins with an end, with a left turn behind it."""
    walker = [first, lefts[first]]
    end = rights[walker[-1]]
    while end != first:
        walker.extend([end, lefts[end]])
        end = rights[walker[-1]]
    return walker


def passes_of(rows, tie):
    """The two passes of a tie as tuples (number, end): with a left turn behind it, then with a right turn."""
    need_tie(rows, tie)
    names = ties_by_end(rows)
    walkers = walkers_of(rows)
    # All walkers together go along a tie just once with either turn.
    return [
        (number, end)
        for turn in (0, 1)
        for number, walker in enumerate(walkers)
        for end in walker[turn::2]
        if names[end] == tie
    ]


def core_of(rows, walker):
    """The set of the ties that a walker goes along just once."""
    names = ties_by_end(rows)
    gone = [names[end] for end in walker]
    return sorted([tie for tie in gone if gone.count(tie) == 1])
