"""Rows of asks: their cells, and what each one has to keep behind."""

from armswing.asks import clash
from armswing.errors import NoCell, NoOrder


def stretch(plate, ask):
    return [plate.cell_at(number) for number in range(ask.first, ask.first + ask.many)]


def stretch_by_number(plate, number, ask):
    try:
        return stretch(plate, ask)
    except NoCell as e:
        raise NoCell(e.cell, number) from None


class Due:
    def __init__(self, plate, number, ask):
        self.number = number
        self.ask = ask
        self.cells = stretch_by_number(plate, number, ask)


def check_beat(asks, number):
    if number > 0 and asks[number].at < asks[number - 1].at:
        raise NoOrder(number, number - 1)


def check_told(asks, number):
    for other in asks[number].behind:
        if other >= number or asks[other].kind == "rest":
            raise NoOrder(number, other)


def kept_behind(asks, number):
    ask = asks[number]
    return tuple([other for other in range(number) if other in ask.behind or clash(ask, asks[other])])


def orders(plate, asks):
    kept = []
    for number, ask in enumerate(asks):
        check_beat(asks, number)
        stretch_by_number(plate, number, ask)
        check_told(asks, number)
        kept.append(kept_behind(asks, number))
    return kept
