"""A desk: it keeps a web, and answers rows of text with texts."""

from threewebs.doubles import double_by
from threewebs.errors import NoRow
from threewebs.notes import read, shown
from threewebs.othernet import other_net
from threewebs.web import Web

NET = "net "
DONE = "ok"
NUMBERS_BELOW = 100


def number_of(word):
    """The number that a word of one or two figures writes."""
    numbers = [str(number) for number in range(NUMBERS_BELOW)]
    if word not in numbers:
        raise NoRow("this is no place and no number of a walker")
    return numbers.index(word)


def do_link(web, words):
    """link POINT PLACE POINT PLACE TIE"""
    point, place, goal, where, tie = words
    web.link((point, number_of(place)), (goal, number_of(where)), tie)
    return DONE


def do_spike(web, words):
    """spike POINT PLACE TIE POINT"""
    point, place, tie, new = words
    web.spike((point, number_of(place)), tie, new)
    return DONE


def do_out(web, words):
    """out TIE"""
    web.take_out(words[0])
    return DONE


def do_shrink(web, words):
    """shrink TIE"""
    web.shrink(words[0])
    return DONE


def tell_rows(web, words):
    """show"""
    return shown(web.rows())


def tell_other(web, words):
    """other"""
    return shown(other_net(web.rows()))


def tell_faces(web, words):
    """faces"""
    return str(len(web.faces()))


def tell_walkers(web, words):
    """walkers"""
    return str(len(web.walkers()))


def tell_kind(web, words):
    """kind TIE"""
    return web.kind(words[0])[0]


def tell_core(web, words):
    """core K"""
    return " ".join(double_by(web.rows(), [number_of(words[0])]))


def tell_doubles(web, words):
    """doubles"""
    many = 1
    # Not by the list of doubles, which may be refused. The bare point has no walker, and yet a double.
    for walker in web.walkers()[1:]:
        many = many * 2
    return str(many)


def tell_trees(web, words):
    """trees"""
    return str(web.many_trees())


# By a row's first word and the count of its words.
ANSWERS = {
    ("link", 6): do_link,
    ("spike", 5): do_spike,
    ("out", 2): do_out,
    ("shrink", 2): do_shrink,
    ("show", 1): tell_rows,
    ("other", 1): tell_other,
    ("faces", 1): tell_faces,
    ("walkers", 1): tell_walkers,
    ("kind", 2): tell_kind,
    ("core", 2): tell_core,
    ("doubles", 1): tell_doubles,
    ("trees", 1): tell_trees,
}


class Desk:
    """Keeps a web, at first that of the bare point."""

    def __init__(self):
        self.web = Web([("a", [])])

    def say(self, row):
        """The answer to a row."""
        # The text of a net has blanks of its own.
        if row.startswith(NET):
            self.web = Web(read(row[len(NET):]))
            return DONE
        words = row.split(" ")
        asked = (words[0], len(words))
        if asked not in ANSWERS:
            raise NoRow("the desk knows no such row")
        answer = ANSWERS[asked]
        return answer(self.web, words[1:])
