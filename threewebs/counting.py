"""How many trees a net has."""

from threewebs.nets import links_of, points_of


def tree_count(rows):
    """The number of trees: the determinant of the table of the net."""
    return determinant(tie_table(rows))


def tie_table(rows):
    """For each point but the first row's a list of numbers, one for each of these points.

    At its own place stands how many ties go from it to any other point, at the
    place of another point how many go there, with a minus. A loop goes nowhere.
    """
    places = {point: place for place, point in enumerate(points_of(rows)[1:])}
    table = [[0 for other in places] for point in places]
    for tie, one, two in links_of(rows):
        for start, goal in ((one, two), (two, one)):
            if start != goal and start in places:
                line = table[places[start]]
                line[places[start]] += 1
                if goal in places:
                    line[places[goal]] -= 1
    return table


def determinant(table):
    """The determinant of the table of a net, without fractions."""
    # Each corner counts trees, too: those of the net with the points of the places behind it
    # made one with the first row's. So none is 0; and the corner ahead divides without a rest.
    last = 1
    while table:
        corner = table[0][0]
        table = [
            [(line[place] * corner - line[0] * table[0][place]) // last for place in range(1, len(table))]
            for line in table[1:]
        ]
        last = corner
    return last
