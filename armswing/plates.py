"""Plates: rings of cells that turn under the arm, and the numbers of the cells."""

from armswing.errors import NoCell, NoPlate

MOST_ZONES = 5
MOST_RINGS_IN_ZONE = 40
MOST_CELLS_IN_RING = 60
LEAST_RINGS = 2
MOST_RINGS = 120
MOST_BEATS = 1000000000


def check_zones(zones):
    if len(zones) < 1 or len(zones) > MOST_ZONES:
        raise NoPlate("a plate has 1 to 5 zones")
    for rings, cells in zones:
        if rings < 1 or rings > MOST_RINGS_IN_ZONE:
            raise NoPlate("a zone has 1 to 40 rings")
        if cells < 1 or cells > MOST_CELLS_IN_RING:
            raise NoPlate("a ring has 1 to 60 cells")
    in_all = sum([zone[0] for zone in zones])
    if in_all < LEAST_RINGS or in_all > MOST_RINGS:
        raise NoPlate("a plate has 2 to 120 rings in all")


def check_turning(zones, lap, skew):
    if lap < 1 or lap > MOST_BEATS:
        raise NoPlate("a lap has 1 to 10 ** 9 beats")
    for rings, cells in zones:
        if lap % cells != 0:
            raise NoPlate("the cells of each zone divide the lap")
    if skew < 0 or skew >= lap:
        raise NoPlate("the skew is 0 to lap - 1")


def check_swing(swing, rings):
    if len(swing) != rings:
        raise NoPlate("the swing has as many numbers as the plate has rings")
    if swing[0] != 0:
        raise NoPlate("the swing over no rings takes 0 beats")
    for far in range(1, rings):
        if swing[far] < 1 or swing[far] > MOST_BEATS:
            raise NoPlate("the swing over some rings takes 1 to 10 ** 9 beats")
        if swing[far] < swing[far - 1]:
            raise NoPlate("the swing over more rings takes no fewer beats")
    check_no_detour(swing)


def check_no_detour(swing):
    for far in range(2, len(swing)):
        # The two parts may change places, so that the lesser one goes up to the half alone.
        for part in range(1, far // 2 + 1):
            if swing[far] > swing[part] + swing[far - part]:
                raise NoPlate("a swing takes no more beats than two that go as far")


def cells_by_ring(zones):
    counts = []
    for rings, cells in zones:
        counts.extend([cells] * rings)
    return counts


def cells_by_number(ring_cells, spares):
    cells = []
    for ring, count in enumerate(ring_cells):
        for place in range(count - spares):
            cells.append((ring, place))
    return cells


def numbers_by_cell(number_cells):
    numbers = {}
    for number, cell in enumerate(number_cells):
        numbers[cell] = number
    return numbers


class Plate:
    def __init__(self, zones, lap, skew, swing):
        check_zones(zones)
        check_turning(zones, lap, skew)
        self.ring_cells = cells_by_ring(zones)
        check_swing(swing, len(self.ring_cells))
        self.lap = lap
        self.skew = skew
        self.swing = list(swing)
        self.number_cells = cells_by_number(self.ring_cells, 0)
        self.cell_numbers = numbers_by_cell(self.number_cells)

    def rings(self):
        return len(self.ring_cells)

    def total(self):
        return len(self.number_cells)

    def cells_of(self, ring):
        return self.ring_cells[ring]

    def beats_of(self, ring):
        return self.lap // self.ring_cells[ring]

    def lap_beats(self):
        return self.lap

    def begins(self, ring, place):
        return (place * self.beats_of(ring) + ring * self.skew) % self.lap

    def swing_of(self, ring, other):
        return self.swing[abs(ring - other)]

    def has_cell(self, ring, place):
        if ring < 0 or ring >= len(self.ring_cells):
            return False
        return place >= 0 and place < self.ring_cells[ring]

    def cell_at(self, number):
        if number < 0 or number >= len(self.number_cells):
            raise NoCell(number)
        return self.number_cells[number]

    def number_of(self, ring, place):
        if not self.has_cell(ring, place):
            raise NoCell((ring, place))
        # On a mended plate some cells bear no number.
        return self.cell_numbers.get((ring, place))
