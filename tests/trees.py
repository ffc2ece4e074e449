"""All orders of a few dues, gone over by hand."""

from itertools import permutations

from armswing.asks import clash, reading, writing
from armswing.orders import Due
from armswing.ways import way_end


def has_to_keep(later, other):
    return clash(later.ask, other.ask) or other.number in later.ask.behind


def all_orders(dues):
    """Every order of them by point 32, as tuples of dues."""
    kept = []
    for order in permutations(dues):
        good = True
        for at, due in enumerate(order):
            good = good and not any(other.number < due.number and has_to_keep(due, other) for other in order[at + 1:])
        if good:
            kept.append(order)
    return kept


def goes(plate, ring, beat, order):
    """For each due of the order where and when the arm is free behind it."""
    stops = []
    for due in order:
        ring, beat = way_end(plate, ring, beat, due.cells)
        stops.append((ring, beat))
    return stops


def numbers(order):
    return tuple(due.number for due in order)


def cut(orders, leaves):
    """True where each order begins with the begun of just one leaf, and each begun begins some order."""
    begun = [leaf[0] for leaf in leaves]
    if len(set(begun)) != len(begun):
        return False
    known, used = set(begun), set()
    for order in orders:
        told = numbers(order)
        found = [told[:length] for length in range(len(told) + 1) if told[:length] in known]
        if len(found) != 1:
            return False
        used.add(found[0])
    return used == known


def few_dues(rng, plate, count, slack=None):
    """Dues, some of which clash or are told to stay behind others; with slack some have latest beats."""
    chosen, dues = sorted(rng.sample(range(100), count)), []
    for number in chosen:
        many = rng.randrange(1, min(3, plate.total()) + 1)
        first = rng.randrange(plate.total() - many + 1)
        latest = None if slack is None or not rng.randrange(4) else rng.randrange(slack)
        # Numbers of others, of nobody here among them; each is less than its own.
        behind = sorted({rng.randrange(number) for each in range(2)}) if number and not rng.randrange(4) else None
        if behind and rng.randrange(2) and dues:
            behind = [rng.choice(dues).number]
        if rng.randrange(3):
            ask = reading(first, many, rng.randrange(50), 0, latest, behind)
        else:
            ask = writing(first, [1] * many, rng.randrange(50), 0, latest, behind)
        dues.append(Due(plate, number, ask))
    return dues
