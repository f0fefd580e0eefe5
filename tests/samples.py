"""Nets for the tests, and slow, plain reckonings that lean on nothing of the program but its refusals."""

import copy
import itertools

from threewebs.errors import NetError

BARE = [("a", [])]
LOOP = [("a", ["x", "x"])]
TIE = [("a", ["x"]), ("b", ["x"])]
TWINS = [("a", ["x", "y"]), ("b", ["y", "x"])]
TRIPLE = [("a", ["x", "y", "z"]), ("b", ["z", "y", "x"])]
WITHIN = [("a", ["k", "l", "l", "k"])]
BESIDE = [("a", ["k", "k", "l", "l"])]
# A loop within a loop, with a spike between them and a loop at its tip.
DEEP = [("a", ["k", "l", "s", "l", "k"]), ("b", ["s", "m", "m"])]
# Two points with a twin tie, a loop at one of them, and a spike.
MIXED = [("a", ["x", "y", "l", "l"]), ("b", ["y", "x", "s"]), ("s", ["s"])]
TRIANGLE = [("c", ["ac", "bc"]), ("a", ["ab", "ac"]), ("b", ["bc", "ab"])]
# The rows are told out of order, and the names sort otherwise than they stand.
FOURS = [
    ("d", ["cd", "bd", "ad"]), ("b", ["ab", "bd", "bc"]), ("a", ["ac", "ad", "ab"]), ("c", ["bc", "cd", "ac"]),
]
# Two triangles with a bridge between them; a point and a tie of the same name; names of eight signs.
BRIDGED = [
    ("a", ["p", "q", "a"]), ("b", ["r", "p"]), ("c", ["q", "r"]),
    ("point001", ["zzzzzzz9", "a", "zzzzzzz8"]), ("0", ["00", "zzzzzzz9"]), ("9", ["zzzzzzz8", "00"]),
]
SMALL = [BARE, LOOP, TIE, TWINS, TRIPLE, WITHIN, BESIDE, DEEP, MIXED, TRIANGLE, FOURS, BRIDGED]


def star(many):
    """A point with so many spikes."""
    return [("hub", [f"t{k}" for k in range(many)])] + [(f"p{k}", [f"t{k}"]) for k in range(many)]


def path(many):
    """So many ties one behind the other, from point p0 on."""
    inner = [(f"p{k}", [f"t{k - 1}", f"t{k}"]) for k in range(1, many)]
    return [("p0", ["t0"])] + inner + [(f"p{many}", [f"t{many - 1}"])]


def ring(many):
    """So many points in a ring."""
    return [(f"p{k}", [f"t{k}", f"t{(k + 1) % many}"]) for k in range(many)]


def twins(many):
    """So many ties between two points."""
    names = [f"t{k}" for k in range(many)]
    return [("a", names), ("b", names[::-1])]


def loops_within(many):
    names = [f"t{k}" for k in range(many)]
    return [("a", names + names[::-1])]


def loops_beside(many):
    return [("a", [f"t{k // 2}" for k in range(2 * many)])]


def wheel(many):
    """A hub with so many spokes, and a rim round it: twice as many ties."""
    rim = [(f"p{k}", [f"r{k}", f"s{k}", f"r{(k - 1) % many}"]) for k in range(many)]
    return [("hub", [f"s{k}" for k in range(many)])] + rim


def ladder(many):
    """Two rows of so many points and the rungs between them."""
    rows = []
    for k in range(many):
        back = [k - 1] if k > 0 else []
        on = [k] if k < many - 1 else []
        rows.append((f"u{k}", [f"u{j}" for j in on] + [f"m{k}"] + [f"u{j}" for j in back]))
        rows.append((f"d{k}", [f"m{k}"] + [f"d{j}" for j in on] + [f"d{j}" for j in back]))
    return rows


def chain(many):
    """So many pairs of twin ties one behind the other: one walker more than pairs."""
    rows = []
    for k in range(many + 1):
        back = [f"u{k - 1}", f"t{k - 1}"] if k > 0 else []
        on = [f"t{k}", f"u{k}"] if k < many else []
        rows.append((f"p{k}", back + on))
    return rows


def grid(wide, high):
    """Points in so many columns and rows, each tied to its neighbours."""
    rows = []
    for x in range(wide):
        for y in range(high):
            ties = [f"v{x}x{y + 1}"] if y < high - 1 else []
            ties += [f"h{x + 1}x{y}"] if x < wide - 1 else []
            ties += [f"v{x}x{y}"] if y > 0 else []
            ties += [f"h{x}x{y}"] if x > 0 else []
            rows.append((f"p{x}x{y}", ties))
    return rows


def theta(lengths):
    """Two points, and between them paths of so many ties each."""
    lists = {"a": [], "b": []}
    for number, length in enumerate(lengths):
        names = [f"t{number}x{k}" for k in range(length)]
        lists["a"].append(names[0])
        lists["b"].insert(0, names[-1])
        for k in range(1, length):
            lists[f"p{number}x{k}"] = names[k - 1:k + 1]
    return list(lists.items())


def hung(*nets):
    """Several nets as one: the points of their first rows are one; each net's names have a sign of its own ahead."""
    marked = [[(f"{sign}{point}", [f"{sign}{tie}" for tie in ties]) for point, ties in rows]
              for sign, rows in zip("smczy1", nets)]
    first = [tie for rows in marked for tie in rows[0][1]]
    return [("hook", first)] + [row for rows in marked for row in rows[1:]]


BIG = [
    star(40), path(40), ring(40), twins(40), loops_within(40), loops_beside(40), wheel(20), ladder(14), chain(20),
    grid(5, 5),
]


class Dice:
    """Numbers that look thrown and are the same at each run."""

    def __init__(self, seed):
        self.state = seed * 7919 + 12345

    def throw(self, many):
        self.state = (self.state * 6364136223846793005 + 1442695040888963407) & ((1 << 64) - 1)
        return (self.state >> 33) % many


def grown(seed, many):
    """A net of so many ties that grows from the bare point by spikes and by ties within a face."""
    dice = Dice(seed)
    lists = {"0": []}
    loving = dice.throw(5)
    for step in range(many):
        tie = f"{'zyxab9'[dice.throw(6)]}{step}"
        corners = slow_corners(lists)
        face = corners[dice.throw(len(corners))]
        point, place = face[dice.throw(len(face))]
        if dice.throw(6) < loving:
            new = f"{'qp1'[dice.throw(3)]}{step}"
            lists[point].insert(place, tie)
            lists[new] = [tie]
        else:
            other, where = face[dice.throw(len(face))]
            put_in(lists, (point, place), (other, where), tie)
    rows = [(point, turned(ties, dice.throw(len(ties) + 1))) for point, ties in lists.items()]
    cut = dice.throw(len(rows))
    return rows[cut:] + rows[:cut]


def woven(seed, many):
    """A net of so many ties that grows by spikes, then by ties between unlike points of a face: it has many trees."""
    dice = Dice(seed)
    lists = {"m": []}
    for step in range(many):
        tie = f"{'k3t'[dice.throw(3)]}{step}"
        faces = [face for face in slow_corners(lists) if len({point for point, place in face}) > 1]
        if 5 * step < 2 * many or not faces:
            faces = slow_corners(lists)
            face = faces[dice.throw(len(faces))]
            point, place = face[dice.throw(len(face))]
            lists[point].insert(place, tie)
            lists[f"p{step}"] = [tie]
        else:
            face = faces[dice.throw(len(faces))]
            one = face[dice.throw(len(face))]
            others = [corner for corner in face if corner[0] != one[0]]
            put_in(lists, one, others[dice.throw(len(others))], tie)
    return list(lists.items())


def put_in(lists, one, other, tie):
    places = sorted([one, other], key=lambda corner: corner[1], reverse=True)
    for point, place in places:
        lists[point].insert(place, tie)


def turned(ties, many):
    return ties[many:] + ties[:many]


def slow_corners(lists):
    """The corners of each face; a corner is told as the end behind it."""
    faces = slow_faces(list(lists.items()))
    return [face if face else [(point, 0) for point in lists] for face in faces]


def slow_ends(rows):
    return [(point, place) for point, ties in rows for place in range(len(ties))]


def slow_tie(rows, end):
    return [ties[end[1]] for point, ties in rows if point == end[0]][0]


def slow_other(rows, end):
    tie = slow_tie(rows, end)
    both = [(point, place) for point, ties in rows for place, each in enumerate(ties) if each == tie]
    return [one for one in both if one != end][0]


def slow_turn(rows, end, by):
    many = [len(ties) for point, ties in rows if point == end[0]][0]
    return (end[0], (end[1] + by + many) % many)


def slow_faces(rows):
    left = slow_ends(rows)
    faces = [] if left else [[]]
    while left:
        face = []
        end = left[0]
        while end in left:
            left.remove(end)
            face.append(end)
            end = slow_turn(rows, slow_other(rows, end), 1)
        faces.append(face)
    return faces


def slow_points(rows, tie):
    """The points of the two ends of a tie, one point twice for a loop."""
    return [point for point, ties in rows for each in ties if each == tie]


def slow_ties(rows):
    return sorted({tie for point, ties in rows for tie in ties})


def slow_groups(rows, some):
    """How many parts the points fall into that hang together by some of the ties."""
    group = {point: {point} for point, ties in rows}
    for tie in some:
        one, other = slow_points(rows, tie)
        both = group[one] | group[other]
        for point in both:
            group[point] = both
    return len({frozenset(points) for points in group.values()})


def slow_is_round(rows, some):
    ends = [point for tie in some for point in slow_points(rows, tie)]
    return all(ends.count(point) % 2 == 0 for point, ties in rows)


def slow_cut(rows, points):
    return [tie for tie in slow_ties(rows) if len([p for p in slow_points(rows, tie) if p in points]) == 1]


def slow_is_tree(rows, some):
    """By the words of [17]: the net hangs together, and no set in it is a round but the one without ties."""
    return slow_groups(rows, some) == 1 and not any(slow_is_round(rows, part) for part in subsets(some) if part)


def slow_walkers(rows):
    """By the words of [18] and [19], step by step."""
    walkers = []
    begun = []
    for first in slow_ends(rows):
        if first not in begun:
            walker = slow_walk(rows, first)
            walkers.append(walker)
            begun += walker[::2] + slow_back(rows, walker)[::2]
    return walkers


def slow_walk(rows, first):
    walker = []
    end, left = first, True
    while not walker or (end, left) != (first, True):
        walker.append(end)
        end = slow_turn(rows, slow_other(rows, end), 1 if left else -1)
        left = not left
    return walker


def slow_back(rows, walker):
    """The way back, begun with a tie behind which there is a left turn."""
    back = [slow_other(rows, end) for end in walker[::-1]]
    return back[1:] + back[:1]


def slow_core(rows, walker):
    names = [slow_tie(rows, end) for end in walker]
    return sorted(name for name in names if names.count(name) == 1)


def slow_sum(sets):
    names = [name for each in sets for name in each]
    return sorted({name for name in names if names.count(name) % 2 == 1})


def slow_doubles(rows):
    return sorted(list(cut) for cut in slow_sides(rows) if slow_is_round(rows, cut))


def slow_is_cut(rows, some):
    """Whether the points can be put on two sides so that just these ties lead from one side to the other."""
    side = {rows[0][0]: False}
    while len(side) < len(rows):
        for tie in slow_ties(rows):
            one, other = slow_points(rows, tie)
            if one in side:
                side.setdefault(other, side[one] != (tie in some))
            elif other in side:
                side.setdefault(one, side[other] != (tie in some))
    return slow_cut(rows, [point for point in side if side[point]]) == some


def slow_trees(rows):
    """All sets of one tie less than there are points by which the net hangs together."""
    sets = itertools.combinations(slow_ties(rows), len(rows) - 1)
    return sorted(list(some) for some in sets if slow_groups(rows, some) == 1)


def slow_tree_count(rows):
    """By a tie's being in a tree or not, with a count kept for each net met on the way."""
    return count_by([tuple(slow_points(rows, tie)) for tie in slow_ties(rows)], len(rows), {})


def count_by(links, many, met):
    """The number of trees of so many points; links of points, each a pair."""
    links = sorted(tuple(sorted(link)) for link in links if link[0] != link[1])
    if not links:
        return 1 if many == 1 else 0
    key = (tuple(links), many)
    if key not in met:
        one, other = links[0]
        shrunk = [tuple(one if point == other else point for point in link) for link in links]
        twins = links.count(links[0])
        rest = [link for link in links if link != links[0]]
        met[key] = twins * count_by(shrunk, many - 1, met) + count_by(rest, many, met)
    return met[key]


def subsets(things):
    """All sets of some things, each sorted."""
    for many in range(len(things) + 1):
        for some in itertools.combinations(sorted(things), many):
            yield list(some)


def slow_sides(rows):
    """All cuts, told as tuples, each with its side."""
    points = [point for point, ties in rows[1:]]
    return {tuple(slow_cut(rows, side)): side for side in subsets(points)}


def lists_within(thing):
    """All lists in a thing, itself too."""
    found = [thing] if isinstance(thing, list) else []
    if isinstance(thing, (list, tuple)):
        for each in thing:
            found += lists_within(each)
    return found


def check_own(test, asked, *things):
    """Nothing handed in is changed, and each answer has lists of its own, whatever is done to an earlier one."""
    before = copy.deepcopy(things)
    first = asked(*things)
    kept = copy.deepcopy(first)
    test.assertEqual(things, before, asked)
    handed = [id(each) for each in lists_within(things)]
    told = [id(each) for each in lists_within(first)]
    test.assertEqual(len(told), len(set(told)), asked)
    test.assertFalse(set(told) & set(handed), asked)
    second = asked(*things)
    test.assertEqual(second, kept, asked)
    for each in lists_within(first):
        each.reverse()
        each.append("spoilt")
    test.assertEqual(second, kept, asked)
    test.assertEqual(things, before, asked)
    test.assertEqual(asked(*things), kept, asked)
    for each in lists_within(things):
        each.clear()
    test.assertEqual(second, kept, asked)
    test.assertEqual(asked(*copy.deepcopy(before)), kept, asked)


def answer(asked, *things):
    """What is told, or the class of the refusal."""
    try:
        return asked(*things)
    except NetError as error:
        return type(error)


def thrown_name(dice, names):
    """Now and then a name that is there already, or none; else a new one."""
    chance = dice.throw(12)
    if chance == 0 and names:
        return names[dice.throw(len(names))]
    return "No" if chance == 1 else f"{'hgf'[dice.throw(3)]}{dice.throw(10000)}"


def thrown_corner(dice, rows):
    """A corner of the net, or what is nearly one."""
    point, ties = rows[dice.throw(len(rows))]
    if dice.throw(10) == 0:
        return (point, len(ties) + dice.throw(2))
    if dice.throw(10) == 0:
        return ("nope", 0)
    return (point, dice.throw(max(len(ties), 1)))


def thrown_deed(dice, rows):
    """A deed as the name of a web's method and what is handed in; some of them are refused."""
    ties = slow_ties(rows)
    points = [point for point, each in rows]
    chance = dice.throw(10)
    if chance < 3:
        return "spike", thrown_corner(dice, rows), thrown_name(dice, ties), thrown_name(dice, points)
    if chance < 7:
        one, other = thrown_corner(dice, rows), thrown_corner(dice, rows)
        return "link", one, other if dice.throw(3) else one, thrown_name(dice, ties)
    tie = ties[dice.throw(len(ties))] if ties and dice.throw(9) else thrown_name(dice, [])
    return "take_out" if chance < 9 else "shrink", tie


def check_refused(test, by, asked, *things):
    """Asked so, just this refusal comes, is taken by its classes, and changes nothing that was handed in."""
    before = copy.deepcopy(things)
    for taken in [by, NetError, ValueError]:
        with test.assertRaises(taken, msg=things) as kept:
            asked(*things)
        test.assertIs(type(kept.exception), by, things)
    test.assertEqual(things, before)


def form(rows):
    """What is left of rows but for the points' names, their order, and where the lists begin."""
    return sorted(min(turned(ties, k) for k in range(len(ties) + 1)) for point, ties in rows)


def slow_corner_faces(rows):
    """The corners of each face."""
    return [face if face else [(rows[0][0], 0)] for face in slow_faces(rows)]


def fresh(rows):
    return copy.deepcopy(rows)


GROWN = [grown(seed, 1 + seed % 11) for seed in range(60)]
LARGE = [grown(seed, 40) for seed in range(100, 112)]
# With many trees; some with one walker, some with several.
WOVEN = [woven(seed, 3 + seed % 9) for seed in range(30)]
DENSE = [woven(seed, many) for seed, many in enumerate([15, 18, 21, 24, 30, 33, 36, 39, 40, 40, 40, 40], start=50)]
CHAINED = [chain(2), chain(3), grid(2, 3), grid(3, 3), ladder(3), wheel(3), wheel(4)]
MANY = SMALL + GROWN + CHAINED
ALL = MANY + BIG + LARGE
