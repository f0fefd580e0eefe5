"""Ends and turns: where one leaves who comes to a point by an end.

An end is a tuple (point, place). A turn needs to know of the point only how
many ends stand round it; so the turns are told of an end and that number.
The steps are told of whole rows: along a tie and round the point behind it.
"""


def ends_round(row):
    """The ends of one row, place by place."""
    point, ties = row
    return [(point, place) for place in range(len(ties))]


def ends_in_order(rows):
    """The ends of all rows, row by row and in each row place by place."""
    return [end for row in rows for end in ends_round(row)]


def turned_left(end, many):
    """The next end round a point with so many ends; behind the last one the first."""
    point, place = end
    return (point, (place + 1) % many)


def turned_right(end, many):
    """The end ahead, round a point with so many ends; ahead of the first one the last."""
    point, place = end
    return (point, (place - 1) % many)


def other_ends(rows):
    """A dict that gives for each end the other end of its tie."""
    met = {}
    others = {}
    for row in rows:
        for end, tie in zip(ends_round(row), row[1]):
            if tie in met:
                others[end] = met[tie]
                others[met[tie]] = end
            else:
                met[tie] = end
    return others


def ties_by_end(rows):
    """A dict that gives for each end the name of its tie."""
    return {end: tie for row in rows for end, tie in zip(ends_round(row), row[1])}


def left_steps(rows):
    """A dict that gives for each end the one by which one leaves who goes along its tie and turns left."""
    lists = dict(rows)
    return {end: turned_left(other, len(lists[other[0]])) for end, other in other_ends(rows).items()}


def right_steps(rows):
    """A dict that gives for each end the one by which one leaves who goes along its tie and turns right."""
    lists = dict(rows)
    return {end: turned_right(other, len(lists[other[0]])) for end, other in other_ends(rows).items()}
