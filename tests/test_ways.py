import random
import unittest

from armswing.mended import Mended
from armswing.plates import Plate
from armswing.ways import next_begin, way, way_end
from samples import MENDED, ONE_ZONE, PLATES, SMALL, all_cells, tells

GREAT = 10 ** 15


def some_cells(rng, told, most):
    return [rng.choice(all_cells(told[0])) for each in range(rng.randrange(most + 1))]


def by_hand(plate, ring, beat, cells):
    """Beat by beat, with nothing but what a plate tells of itself."""
    rows = []
    for other, place in cells:
        beat = beat + plate.swing_of(ring, other)
        while beat % plate.lap_beats() != plate.begins(other, place):
            beat = beat + 1
        rows.append((other, place, beat, beat + plate.beats_of(other)))
        ring, beat = other, beat + plate.beats_of(other)
    return rows


class TestNextBegin(unittest.TestCase):
    def test_at_the_beat_ahead_and_behind(self):
        plate = Plate(*SMALL)
        # The cell at ring 1, place 1 begins at 5, 13, 21 ..
        self.assertEqual(next_begin(plate, 1, 1, 5), 5)
        self.assertEqual(next_begin(plate, 1, 1, 4), 5)
        self.assertEqual(next_begin(plate, 1, 1, 6), 13)
        self.assertEqual(next_begin(plate, 1, 1, 0), 5)
        self.assertEqual(next_begin(plate, 0, 0, 0), 0)
        self.assertEqual(next_begin(plate, 0, 0, 1), 8)

    def test_great_beats(self):
        plate = Plate(*SMALL)
        self.assertEqual(next_begin(plate, 1, 1, 8 * 10 ** 14), 8 * 10 ** 14 + 5)
        self.assertEqual(next_begin(plate, 0, 0, GREAT), GREAT)
        self.assertEqual(next_begin(plate, 0, 1, GREAT), GREAT + 2)
        self.assertEqual(next_begin(plate, 0, 3, GREAT - 1), GREAT + 6)

    def test_the_least_beat_of_all_plates(self):
        for told in PLATES:
            plate = Plate(*told)
            lap = plate.lap_beats()
            for ring, place in all_cells(told[0])[:200] + all_cells(told[0])[-200:]:
                begins = plate.begins(ring, place)
                for beat in (0, 1, begins, begins + 1, lap + begins - 1, 7 * lap + begins, GREAT, GREAT - lap + 1):
                    found = next_begin(plate, ring, place, beat)
                    self.assertEqual(found % lap, begins)
                    self.assertTrue(beat <= found < beat + lap)


class TestWay(unittest.TestCase):
    def test_over_no_cells(self):
        plate = Plate(*SMALL)
        for ring, beat in ((0, 0), (2, 7), (1, GREAT)):
            self.assertEqual(way(plate, ring, beat, []), [])
            self.assertEqual(way_end(plate, ring, beat, []), (ring, beat))

    def test_over_one_cell(self):
        plate = Plate(*SMALL)
        self.assertEqual(way(plate, 0, 0, [(0, 0)]), [(0, 0, 0, 2)])
        self.assertEqual(way(plate, 0, 1, [(0, 0)]), [(0, 0, 8, 10)])
        # The arm is at ring 1 at beat 3; the cell begins at 5.
        self.assertEqual(way(plate, 0, 0, [(1, 1)]), [(1, 1, 5, 9)])
        self.assertEqual(way(plate, 0, 2, [(1, 1)]), [(1, 1, 5, 9)])
        self.assertEqual(way(plate, 0, 3, [(1, 1)]), [(1, 1, 13, 17)])
        self.assertEqual(way_end(plate, 0, 3, [(1, 1)]), (1, 17))

    def test_over_one_cell_twice(self):
        plate = Plate(*SMALL)
        self.assertEqual(way(plate, 0, 0, [(0, 0), (0, 0)]), [(0, 0, 0, 2), (0, 0, 8, 10)])
        self.assertEqual(way_end(plate, 0, 0, [(0, 0), (0, 0)]), (0, 10))
        # A ring of one cell: it begins again as it ends.
        tiny = Plate([(2, 1)], 1, 0, [0, 1])
        self.assertEqual(way(tiny, 0, 4, [(1, 0), (1, 0)]), [(1, 0, 5, 6), (1, 0, 6, 7)])

    def test_neighbours_pass_without_a_wait(self):
        plate = Plate(*ONE_ZONE)
        rows = way(plate, 0, 0, [(0, 0), (0, 1), (0, 2), (0, 3), (0, 4), (0, 5), (0, 0)])
        self.assertEqual([row[2] for row in rows], [0, 2, 4, 6, 8, 10, 12])
        for told in PLATES:
            plate = Plate(*told)
            for ring in range(plate.rings()):
                count = plate.cells_of(ring)
                rows = way(plate, 0, 17, [(ring, place % count) for place in range(count + 3)])
                for row, later in zip(rows, rows[1:]):
                    self.assertEqual(row[3], later[2])

    def test_over_several_rings(self):
        plate = Plate(*SMALL)
        cells = [(2, 0), (0, 3), (1, 0), (1, 1)]
        # Swings of 5, 5, 3 and 0 beats; begins of 2, 6, 1 and 5.
        told = [(2, 0, 10, 14), (0, 3, 22, 24), (1, 0, 33, 37), (1, 1, 37, 41)]
        self.assertEqual(way(plate, 0, 0, cells), told)
        self.assertEqual(way_end(plate, 0, 0, cells), (1, 41))
        great = [(ring, place, begun + GREAT, ended + GREAT) for ring, place, begun, ended in told]
        self.assertEqual(way(plate, 0, GREAT, cells), great)
        self.assertEqual(way_end(plate, 0, GREAT, cells), (1, 41 + GREAT))

    def test_held_against_beat_by_beat(self):
        rng = random.Random(12)
        for told in PLATES:
            plate = Plate(*told)
            if plate.lap_beats() > 1000:
                continue
            for each in range(60):
                cells = some_cells(rng, told, 6)
                ring, beat = rng.randrange(plate.rings()), rng.choice([0, 1, rng.randrange(200), GREAT])
                rows = way(plate, ring, beat, cells)
                self.assertEqual(rows, by_hand(plate, ring, beat, cells))
                end = (rows[-1][0], rows[-1][3]) if rows else (ring, beat)
                self.assertEqual(way_end(plate, ring, beat, cells), end)

    def test_a_mended_plate(self):
        for told in MENDED:
            plate = Mended(*told)
            cells = [plate.cell_at(number) for number in range(plate.total())]
            self.assertEqual(way(plate, 0, 5, cells), by_hand(plate, 0, 5, cells))

    def test_what_is_handed_in_stays(self):
        plate, cells = Plate(*SMALL), [(2, 0), (0, 3), (0, 3)]
        ahead = tells(plate)
        rows = way(plate, 1, 3, cells)
        way_end(plate, 1, 3, cells)
        next_begin(plate, 1, 1, 3)
        self.assertEqual((cells, tells(plate)), ([(2, 0), (0, 3), (0, 3)], ahead))
        rows.clear()
        self.assertEqual(len(way(plate, 1, 3, cells)), 3)


class TestNoEarlierAndNoLater(unittest.TestCase):
    def test_who_sets_off_later_ends_no_earlier(self):
        rng = random.Random(131)
        for told in PLATES:
            plate = Plate(*told)
            for each in range(60):
                cells, ring = some_cells(rng, told, 6), rng.randrange(plate.rings())
                beat = rng.randrange(3 * plate.lap_beats())
                for later in (beat, beat + 1, beat + rng.randrange(2 * plate.lap_beats())):
                    for row, other in zip(way(plate, ring, beat, cells), way(plate, ring, later, cells)):
                        self.assertLessEqual(row[3], other[3])
                    self.assertLessEqual(way_end(plate, ring, beat, cells)[1], way_end(plate, ring, later, cells)[1])

    def test_who_leaves_cells_out_ends_no_later(self):
        rng = random.Random(132)
        for told in PLATES:
            plate = Plate(*told)
            for each in range(60):
                cells, ring = some_cells(rng, told, 7), rng.randrange(plate.rings())
                beat = rng.randrange(3 * plate.lap_beats())
                kept = [at for at in range(len(cells)) if rng.randrange(3)]
                rows = way(plate, ring, beat, cells)
                fewer = way(plate, ring, beat, [cells[at] for at in kept])
                for at, row in zip(kept, fewer):
                    self.assertLessEqual(row[3], rows[at][3])


if __name__ == "__main__":
    unittest.main()
