"""Least ways: the order of a few dues that ends first, with bounds that cut off all others."""

from armswing.asks import clash
from armswing.errors import TooMany
from armswing.heaps import heap_put, heap_take
from armswing.orders import Due, orders
from armswing.plays import play
from armswing.ways import way_end

MOST_DUES = 7


def are_few(dues):
    return len(dues) <= MOST_DUES


def check_few(dues):
    if not are_few(dues):
        raise TooMany("orders are gone over of at most seven dues")


def keeps_behind(due, other):
    return due.number > other.number and (other.number in due.ask.behind or clash(due.ask, other.ask))


def behind_among(dues):
    kept = {}
    for due in dues:
        kept[due.number] = [other.number for other in dues if keeps_behind(due, other)]
    return kept


def may_be_next(dues):
    kept = behind_among(dues)
    return [due.number for due in dues if not kept[due.number]]


def left_behind(dues, begun):
    return [due for due in dues if due.number not in begun]


def next_behind(dues, kept, begun):
    left = left_behind(dues, begun)
    return [due for due in left if all([other in begun for other in kept[due.number]])]


def passing_beats(plate, due):
    return sum([plate.beats_of(ring) for ring, place in due.cells])


def bound_of(plate, ring, beat, dues):
    one_by_one = beat + sum([passing_beats(plate, due) for due in dues])
    return max([one_by_one] + [way_end(plate, ring, beat, due.cells)[1] for due in dues])


def beginning(plate, dues, begun, stop):
    # The fewest dues left stand ahead of the order begun, so that of equal bounds the one nearest its end is next.
    left = left_behind(dues, begun)
    return (bound_of(plate, stop[0], stop[1], left), len(left), begun, stop)


def put_longer_ones(heap, plate, dues, kept, node):
    begun = node[2]
    stop = node[3]
    for due in next_behind(dues, kept, begun):
        later = way_end(plate, stop[0], stop[1], due.cells)
        heap_put(heap, beginning(plate, dues, begun + (due.number,), later))


def least_way(plate, ring, beat, dues):
    check_few(dues)
    kept = behind_among(dues)
    heap = []
    node = beginning(plate, dues, (), (ring, beat))
    while node[1] > 0:
        put_longer_ones(heap, plate, dues, kept, node)
        node = heap_take(heap)
    # No bound in the heap is less than that of this one, whose dues are all gone over.
    leaves = [(other[2], other[0]) for other in [node] + heap]
    return (node[2], node[0], leaves)


def how_far(plate, asks, rule, ring=0):
    orders(plate, asks)
    dues = [Due(plate, number, ask) for number, ask in enumerate(asks)]
    check_few(dues)
    played = play(plate, asks, rule, ring)
    return (played.end, least_way(plate, ring, 0, dues)[1])
