"""Rows of asks and rules that several tests go over, and what doing a row one by one tells."""

from armswing.asks import reading, resting, writing
from armswing.careful import Careful
from armswing.lifts import Lift, Sweep
from armswing.mended import Mended
from armswing.orders import Due
from armswing.plates import Plate
from armswing.rules import First, Latest, Nearest, Rule, Soonest
from armswing.shares import Shares
from samples import ONE_ZONE, SMALL

MADE = [
    Plate(*SMALL),
    Plate(*ONE_ZONE),
    Plate([(2, 1)], 1, 0, [0, 1]),
    Plate([(1, 3), (1, 1), (1, 6)], 18, 17, [0, 4, 4]),
    Plate([(5, 2)], 10, 0, [0, 1, 2, 3, 4]),
    Plate([(4, 5)], 10 ** 9, 10 ** 9 - 1, [0, 10 ** 9, 10 ** 9, 10 ** 9]),
    Mended(*SMALL, 1, [(0, 3), (0, 1), (2, 0)]),
    Mended(*ONE_ZONE, 2, [(1, 0), (1, 3), (1, 1), (1, 5), (0, 2), (2, 0)]),
]

# Askers of the rows below are 0 to 3, each of which has a share in the shares here.
RULES = [
    Rule, First, Nearest, Soonest, Latest, Careful, Lift, Sweep,
    lambda: Lift(True), lambda: Sweep(True), lambda: Lift(calm=False),
    lambda: Shares([(0, 1), (1, 2), (2, 3), (3, 4)]), lambda: Shares([(3, 1), (2, 1), (1, 1), (0, 4)]),
]


def some_behind(rng, row):
    others = [number for number, ask in enumerate(row) if ask.kind != "rest"]
    return sorted(rng.sample(others, rng.randrange(min(2, len(others)) + 1))) if rng.randrange(4) == 0 else None


def some_row(rng, plate, most, rests=True, spread=None):
    """A row that orders takes; the marks are unlike one another all over the row."""
    row, at, mark = [], 0, 0
    spread = 2 * plate.lap_beats() if spread is None else spread
    for each in range(rng.randrange(most + 1)):
        at = at + rng.choice([0, 0, rng.randrange(spread + 1)])
        if rests and rng.randrange(6) == 0:
            row.append(resting(at))
            continue
        many = rng.randrange(1, min(4, plate.total()) + 1)
        first = rng.randrange(plate.total() - many + 1)
        latest = rng.choice([None, at + rng.randrange(5 * plate.lap_beats())])
        asker, behind = rng.randrange(4), some_behind(rng, row)
        if rng.randrange(2):
            row.append(reading(first, many, at, asker, latest, behind))
        else:
            marks = [mark + step for step in range(1, many + 1)]
            mark = mark + many
            row.append(writing(first, marks, at, asker, latest, behind, rng.randrange(2) == 0))
    return row


def reads_alone(rng, plate, most, spread=None):
    """A row in which no ask has to keep behind another one."""
    row, at = [], 0
    spread = 2 * plate.lap_beats() if spread is None else spread
    for each in range(rng.randrange(most + 1)):
        at = at + rng.choice([0, 0, 0, rng.randrange(spread + 1)])
        row.append(reading(rng.randrange(plate.total()), 1, at, rng.randrange(4)))
    return row


def one_by_one(row):
    """For each read what it would tell were all done in the row's order, else None."""
    lies, answers = {}, []
    for ask in row:
        for step, mark in enumerate(ask.marks):
            lies[ask.first + step] = mark
        answers.append([lies.get(ask.first + step, 0) for step in range(ask.many)] if ask.kind == "read" else None)
    return answers


def passing(row, taken):
    """How many asks with greater numbers each one sees go ahead of it."""
    passed = []
    for number, ask in enumerate(row):
        later = [other for other in range(number + 1, len(row)) if taken[other] is not None]
        passed.append(None if ask.kind == "rest" else sum(taken[other] < taken[number] for other in later))
    return passed


def waiting(row, taken):
    """The most that wait at any one taking."""
    most, real = 0, [number for number, ask in enumerate(row) if ask.kind != "rest"]
    for beat in [taken[number] for number in real]:
        most = max(most, len([number for number in real if row[number].at <= beat <= taken[number]]))
    return most


def dues_of(plate, row):
    return [Due(plate, number, ask) for number, ask in enumerate(row) if ask.kind != "rest"]


def on_rings(plate, numbers, **more):
    """Dues, each told as number: ring, that read the first cell of a ring."""
    return [Due(plate, number, reading(plate.number_of(ring, 0), 1, 0, **more)) for number, ring in numbers.items()]


def of_askers(plate, numbers):
    """Dues, each told as number: asker."""
    return [Due(plate, number, reading(0, 1, 0, asker)) for number, asker in numbers.items()]
