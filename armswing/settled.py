"""Whether asks may wait for ever: bounds that are reached, and asks that keep another one waiting."""

from armswing.asks import reading
from armswing.errors import NoRule
from armswing.shares import check_shares

BOUND_WORDS = ("first", "calm lift", "calm sweep")
EVER_WORDS = ("nearest", "soonest", "latest", "lift", "sweep")
MOST_CELLS = 16


def read_of_next_ring(plate):
    return reading(plate.number_of(1, 0), 1, 0)


def reads_of_cell_0(count, at, asker):
    return [reading(0, 1, at, asker) for each in range(count)]


def bound_row(plate, most):
    # All others lie on the arm's ring, so that only first takes the one on the next ring ahead of them.
    return [read_of_next_ring(plate)] + reads_of_cell_0(most - 1, 0, 0)


def round_of_ring_0(plate):
    # Each read comes as the one ahead of it ends and begins at once. So the arm never leaves ring 0, no other ring's
    # cell can begin as soon, and besides the one that is kept waiting one alone waits.
    cells = plate.cells_of(0)
    reads = []
    for place in range(0, cells, MOST_CELLS):
        at = place * plate.beats_of(0)
        reads.append(reading(place, min(MOST_CELLS, cells - place), at, latest=at))
    return reads


def settled(plate, word, most):
    if word in BOUND_WORDS:
        bound = 0 if word == "first" else most - 1
        return ("bound", bound, bound_row(plate, most))
    if word in EVER_WORDS:
        return ("ever", [read_of_next_ring(plate)], round_of_ring_0(plate), plate.lap_beats())
    raise NoRule("no word of a rule for which waiting is settled")


def share_of(shares, asker):
    check_shares(shares)
    for other, share in shares:
        if other == asker:
            return share
    raise NoRule("an asker without a share")


def turns_of_others(share, ahead):
    return ahead // share + 1


def shares_bound(shares, asker, ahead):
    own = share_of(shares, asker)
    in_all = sum([share for other, share in shares])
    return turns_of_others(own, ahead) * (in_all - own)


def shares_row(plate, shares, asker, ahead):
    own = share_of(shares, asker)
    # The asker's turn is used up just ahead of the coming, so that all others have their turns first. Its reads of one
    # cell, one a lap, have ended by then.
    coming = own * plate.lap_beats()
    asks = reads_of_cell_0(own, 0, asker) + reads_of_cell_0(ahead + 1, coming, asker)
    for other, share in shares:
        if other != asker:
            asks.extend(reads_of_cell_0(turns_of_others(own, ahead) * share, coming, other))
    return (asks, own + ahead)
