"""The refusals: one class for each, all under NetError."""


class NetError(ValueError):
    """Any refusal."""


class NoNet(NetError):
    """Rows that tell no net."""


class Broken(NetError):
    """Rows that don't hang together."""


class NoPlane(NetError):
    """Rows that are not plane."""


class NoWalker(NetError):
    """A number that is none of a walker."""


class NoDouble(NetError):
    """A set of ties that is no double."""


class TooMany(NetError):
    """More than may be told or put in."""


class NoTie(NetError):
    """A text that is no tie's name of the net."""


class NoCorner(NetError):
    """What is no corner of the net."""


class NoFace(NetError):
    """Two corners that lie in unlike faces."""


class Taken(NetError):
    """A new name that stands in the net already, or is no name."""


class Bridge(NetError):
    """A tie without which the net would not hang together."""


class Loop(NetError):
    """A tie that can't be shrunk, as both its ends are at one point."""


class NoText(NetError):
    """A text that writes no rows."""


class NoRow(NetError):
    """A row that asks the desk nothing it knows."""
