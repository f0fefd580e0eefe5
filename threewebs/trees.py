"""All trees of a net."""

from threewebs.counting import tree_count
from threewebs.errors import TooMany
from threewebs.nets import links_of, spread

MOST_TREES = 300


def trees_of(rows):
    """All trees, sorted."""
    if tree_count(rows) > MOST_TREES:
        raise TooMany("there are more than three hundred trees")
    return trees_by(links_of(rows), len(rows) - 1)


def trees_by(links, many):
    """All trees by links (tie, point, point) that hang together; a tree has so many ties.

    They are sorted, as the links are sorted by their ties: the trees with the first
    tie stand ahead of those without it.
    """
    if len(links) == many:
        return [[tie for tie, one, other in links]]
    tie, one, other = links[0]
    rest = links[1:]
    if one == other:
        return trees_by(rest, many)
    trees = [[tie] + tree for tree in trees_by(merged(rest, one, other), many - 1)]
    # Without a bridge there is no tree, and no step is to be taken that leads to none.
    if other in spread(one, [(start, goal, False) for each, start, goal in rest]):
        trees.extend(trees_by(rest, many))
    return trees


def merged(links, one, other):
    """The links where a point has become one with another one."""
    return [
        (tie, one if start == other else start, one if goal == other else goal) for tie, start, goal in links
    ]
