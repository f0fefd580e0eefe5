"""Notes: rows written as a text, and read back."""

from threewebs.errors import NoText
from threewebs.names import is_name


def shown(rows):
    """The text that writes rows."""
    return "; ".join([" ".join([f"{point}:"] + ties) for point, ties in rows])


def read(text):
    """The rows that a text writes, be they a net or not."""
    return [read_row(part) for part in text.split("; ")]


def read_row(part):
    """The row that a part of a text writes."""
    head, *ties = part.split(" ")
    point = head[:-1]
    if not head.endswith(":") or not all([is_name(name) for name in [point] + ties]):
        raise NoText("this text writes no rows")
    return (point, ties)
