"""A web: it keeps a net, does deeds to it, and tells of the net that stands."""

from threewebs.counting import tree_count
from threewebs.deeds import shrunk, spiked, taken_out, tied
from threewebs.doubles import doubles_of
from threewebs.faces import faces_of
from threewebs.kinds import kind_of
from threewebs.nets import vet
from threewebs.trees import trees_of
from threewebs.walkers import walkers_of


class Web:
    """A net that may be changed by deeds; a deed that is refused changes nothing."""

    def __init__(self, rows):
        vet(rows)
        # The asker may change the rows behind.
        self.standing = copied(rows)

    def rows(self):
        """The rows that stand."""
        return copied(self.standing)

    def link(self, one, other, tie):
        """Puts in a tie between two corners."""
        self.standing = tied(self.standing, one, other, tie)

    def spike(self, one, tie, point):
        """Puts in a tie from a corner to a new point."""
        self.standing = spiked(self.standing, one, tie, point)

    def take_out(self, tie):
        """Takes out a tie."""
        self.standing = taken_out(self.standing, tie)

    def shrink(self, tie):
        """Shrinks a tie."""
        self.standing = shrunk(self.standing, tie)

    def faces(self):
        """The faces."""
        return faces_of(self.standing)

    def walkers(self):
        """The walkers."""
        return walkers_of(self.standing)

    def doubles(self):
        """All doubles."""
        return doubles_of(self.standing)

    def trees(self):
        """All trees."""
        return trees_of(self.standing)

    def kind(self, tie):
        """The kind of a tie, with a set that shows it."""
        return kind_of(self.standing, tie)

    def many_trees(self):
        """The number of trees."""
        return tree_count(self.standing)


def copied(rows):
    """The same rows with lists of their own."""
    return [(point, list(ties)) for point, ties in rows]
