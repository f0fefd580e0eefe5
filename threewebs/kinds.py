"""The kind of a tie: it lies in a double, in a cut of which the rest is a round, or the other way about."""

from threewebs.nets import need_tie
from threewebs.parting import parted


def kind_of(rows, tie):
    """The kind of a tie, "double", "cut" or "round", with a set that shows it."""
    need_tie(rows, tie)
    told = parted(rows, [tie])
    if told[0] == "odd":
        return ("double", told[1])
    # The two parts sum up to the tie alone: one of them has it, and the rest of that one is the other.
    return ("cut", told[2]) if tie in told[2] else ("round", told[1])
