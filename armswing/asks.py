"""Asks: to read cells, to write marks there, or to rest."""

from armswing.errors import NoAsk

MOST_CELLS = 16
GREATEST_FIRST = 1000000
GREATEST_MARK = 1000000000
GREATEST_AT = 1000000000000
GREATEST_ASKER = 20
GREATEST_LATEST = 10000000000000
GREATEST_BEHIND = 99


class Ask:
    def __init__(self, kind, first, many, marks, at, asker, latest, behind, early):
        self.kind = kind
        self.first = first
        self.many = many
        self.marks = marks
        self.at = at
        self.asker = asker
        self.latest = latest
        self.behind = behind
        self.early = early


def check_between(number, least, greatest, words):
    if number < least or number > greatest:
        raise NoAsk(words)


def check_behind(behind):
    ahead = -1
    for number in behind:
        check_between(number, ahead + 1, GREATEST_BEHIND, "behind has numbers from 0 to 99, rising, each once")
        ahead = number


def check_fields(first, many, at, asker, latest, behind):
    check_between(first, 0, GREATEST_FIRST, "the first number is 0 to 10 ** 6")
    check_between(many, 1, MOST_CELLS, "an ask has 1 to 16 cells")
    check_between(at, 0, GREATEST_AT, "an ask comes at a beat from 0 to 10 ** 12")
    check_between(asker, 0, GREATEST_ASKER, "an asker is 0 to 20")
    if latest is not None:
        check_between(latest, 0, GREATEST_LATEST, "a latest beat is 0 to 10 ** 13")
    check_behind(behind)


def told_behind(behind):
    return () if behind is None else tuple(behind)


def reading(first, many, at, asker=0, latest=None, behind=None):
    others = told_behind(behind)
    check_fields(first, many, at, asker, latest, others)
    return Ask("read", first, many, (), at, asker, latest, others, False)


def writing(first, marks, at, asker=0, latest=None, behind=None, early=False):
    others = told_behind(behind)
    check_fields(first, len(marks), at, asker, latest, others)
    for mark in marks:
        check_between(mark, 0, GREATEST_MARK, "a mark is 0 to 10 ** 9")
    return Ask("write", first, len(marks), tuple(marks), at, asker, latest, others, early)


def resting(at):
    check_between(at, 0, GREATEST_AT, "an ask comes at a beat from 0 to 10 ** 12")
    return Ask("rest", 0, 0, (), at, 0, None, (), False)


def clash(one, other):
    if one.kind != "write" and other.kind != "write":
        return False
    # Unlike numbers lie at unlike cells on every plate, so that the numbers tell which cells are in common.
    return one.first < other.first + other.many and other.first < one.first + one.many
