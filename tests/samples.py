"""Plates that several tests go over."""


def level_swing(rings):
    return [0] + [7] * (rings - 1)


def even_swing(rings):
    return [3 * far for far in range(rings)]


# (zones, lap, skew, swing)
SMALL = ([(1, 4), (2, 2)], 8, 1, [0, 3, 5])
ONE_ZONE = ([(3, 6)], 12, 5, [0, 2, 4])

PLATES = [
    SMALL,
    ONE_ZONE,
    ([(2, 1)], 1, 0, [0, 1]),
    ([(2, 5)], 10, 0, [0, 1]),
    ([(2, 5)], 10, 9, [0, 10 ** 9]),
    ([(1, 3), (1, 1), (1, 6)], 18, 17, [0, 4, 4]),
    ([(3, 6), (2, 4), (2, 3), (1, 2), (2, 1)], 24, 7, even_swing(10)),
    ([(40, 60), (40, 30), (40, 1)], 60, 59, even_swing(120)),
    ([(40, 2)], 10 ** 9, 10 ** 9 - 1, level_swing(40)),
    ([(24, 50)] * 5, 10 ** 9, 123456789, level_swing(120)),
    ([(1, 60), (1, 1)], 60, 30, [0, 1]),
]

# (zones, lap, skew, swing, spares, bad)
MENDED = [
    SMALL + (0, []),
    SMALL + (1, []),
    SMALL + (1, [(1, 0)]),
    SMALL + (1, [(0, 3), (0, 1), (2, 0)]),
    ONE_ZONE + (2, [(1, 0), (1, 3), (1, 1), (1, 5), (0, 2), (2, 0)]),
    ONE_ZONE + (5, [(2, 0), (0, 0), (1, 0), (1, 1)]),
    ([(3, 6), (2, 4), (2, 3), (1, 2)], 12, 7, even_swing(8), 1, [(3, 0), (2, 5), (3, 1), (7, 0)]),
]


def rings_of(zones):
    # One entry a ring, from the outermost on: how many cells it has.
    return [cells for rings, cells in zones for ring in range(rings)]


def all_cells(zones):
    return [(ring, place) for ring, count in enumerate(rings_of(zones)) for place in range(count)]


FIELDS = ["kind", "first", "many", "marks", "at", "asker", "latest", "behind", "early"]


def fields(ask):
    return tuple(getattr(ask, name) for name in FIELDS)


def tells(plate):
    """All that a plate tells, so that two plates, or one at two times, can be held against one another."""
    cells = [plate.cell_at(number) for number in range(plate.total())]
    rings = range(plate.rings())
    places = [(ring, place) for ring in rings for place in range(plate.cells_of(ring))]
    return (cells, [plate.number_of(*cell) for cell in places], [plate.begins(*cell) for cell in places],
            [(plate.cells_of(ring), plate.beats_of(ring)) for ring in rings],
            [plate.swing_of(ring, other) for ring in rings for other in rings], plate.lap_beats())
