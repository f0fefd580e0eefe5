"""Trees of a net, and the rounds and cuts by a tree."""

from threewebs.nets import links_of, spread
from threewebs.sets import cut_of


def tree_of(rows):
    """A tree of the net: each tie in turn is taken whose points don't hang together yet."""
    tree = []
    for tie, one, other in links_of(rows):
        if other not in reached(rows, tree, one):
            tree.append(tie)
    return tree


def is_tree(rows, some):
    """Whether the net hangs together by a set of ties without a round in it."""
    # By fewer ties the net can't hang together, and with more of them there is a round.
    if len(some) != len(rows) - 1:
        return False
    return len(reached(rows, some, rows[0][0])) == len(rows)


def round_by(rows, tree, tie):
    """The round that has a tie that is not in the tree, and else ties of the tree alone."""
    # A tie of the tree is in this round just where its cut, even with the round, has the tie.
    return sorted([tie] + [each for each in tree if tie in cut_by(rows, tree, each)])


def cut_by(rows, tree, tie):
    """The cut that has a tie of the tree, and else ties that are not in the tree."""
    rest = [each for each in tree if each != tie]
    return cut_of(rows, reached(rows, rest, rows[0][0]))


def reached(rows, some, first):
    """The set of points to which one comes from a first one along some of the ties."""
    return sorted(spread(first, [(one, other, False) for tie, one, other in links_of(rows) if tie in some]))
