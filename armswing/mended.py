"""Mended plates: bad cells laid to cells that were kept free."""

from armswing.errors import NoCell, NoPlate, NoSpare
from armswing.plates import Plate, cells_by_number, numbers_by_cell


def check_spares(spares, ring_cells):
    if spares < 0 or spares >= min(ring_cells):
        raise NoPlate("the spares are 0 or more, less than the cells of each zone")


def bad_by_cell(plate, bad):
    found = {}
    for ring, place in bad:
        if not plate.has_cell(ring, place) or (ring, place) in found:
            raise NoCell((ring, place))
        found[(ring, place)] = True
    return found


def bad_numbers(number_cells, bad_cells):
    return [number for number, cell in enumerate(number_cells) if cell in bad_cells]


def nearest_rings(ring, rings):
    return sorted(range(rings), key=lambda other: (abs(other - ring), other))


def free_kept_cell(ring_cells, spares, ring, used):
    for other in nearest_rings(ring, len(ring_cells)):
        count = ring_cells[other]
        for place in range(count - spares, count):
            if (other, place) not in used:
                return (other, place)
    return None


def lay_elsewhere(ring_cells, spares, number_cells, bad_cells):
    moves = []
    used = dict(bad_cells)
    for number in bad_numbers(number_cells, bad_cells):
        cell = number_cells[number]
        other = free_kept_cell(ring_cells, spares, cell[0], used)
        if other is None:
            raise NoSpare(number)
        used[other] = True
        moves.append((number, cell, other))
    return moves


class Mended(Plate):
    def __init__(self, zones, lap, skew, swing, spares, bad):
        Plate.__init__(self, zones, lap, skew, swing)
        check_spares(spares, self.ring_cells)
        bad_cells = bad_by_cell(self, bad)
        self.number_cells = cells_by_number(self.ring_cells, spares)
        self.moves = lay_elsewhere(self.ring_cells, spares, self.number_cells, bad_cells)
        for number, cell, other in self.moves:
            self.number_cells[number] = other
        self.cell_numbers = numbers_by_cell(self.number_cells)

    def laid(self):
        return list(self.moves)
