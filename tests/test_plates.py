import unittest

from armswing.errors import NoCell, NoPlate
from armswing.plates import Plate
from samples import ONE_ZONE, PLATES, SMALL, all_cells, even_swing, level_swing, rings_of, tells


def plates():
    return [(told, Plate(*told)) for told in PLATES]


class TestWhatAPlateTells(unittest.TestCase):
    def test_small_plate(self):
        plate = Plate(*SMALL)
        self.assertEqual((plate.rings(), plate.total(), plate.lap_beats()), (3, 8, 8))
        self.assertEqual([plate.cells_of(ring) for ring in range(3)], [4, 2, 2])
        self.assertEqual([plate.beats_of(ring) for ring in range(3)], [2, 4, 4])
        begins = [plate.begins(*cell) for cell in all_cells(SMALL[0])]
        self.assertEqual(begins, [0, 2, 4, 6, 1, 5, 2, 6])

    def test_plate_of_one_zone(self):
        plate = Plate(*ONE_ZONE)
        self.assertEqual((plate.rings(), plate.total(), plate.lap_beats()), (3, 18, 12))
        begins = [plate.begins(*cell) for cell in all_cells(ONE_ZONE[0])]
        self.assertEqual(begins, [0, 2, 4, 6, 8, 10, 5, 7, 9, 11, 1, 3, 10, 0, 2, 4, 6, 8])

    def test_skews_of_nothing_and_of_a_lap_less_one(self):
        still = Plate([(3, 5)], 10, 0, [0, 1, 1])
        self.assertEqual([still.begins(ring, 3) for ring in range(3)], [6, 6, 6])
        back = Plate([(3, 5)], 10, 9, [0, 1, 1])
        self.assertEqual([back.begins(ring, 3) for ring in range(3)], [6, 5, 4])
        self.assertEqual([back.begins(ring, 0) for ring in range(3)], [0, 9, 8])

    def test_all_plates(self):
        for (zones, lap, skew, swing), plate in plates():
            counts = rings_of(zones)
            self.assertEqual(plate.rings(), len(counts))
            self.assertEqual(plate.total(), sum(counts))
            self.assertEqual(plate.lap_beats(), lap)
            for ring, count in enumerate(counts):
                self.assertEqual(plate.cells_of(ring), count)
                self.assertEqual(plate.beats_of(ring) * count, lap)
                for place in range(count):
                    told = (place * (lap // count) + ring * skew) % lap
                    self.assertEqual(plate.begins(ring, place), told)

    def test_edges(self):
        self.assertEqual(Plate([(2, 1)], 1, 0, [0, 1]).begins(1, 0), 0)
        widest = Plate([(24, 50)] * 5, 10 ** 9, 10 ** 9 - 1, level_swing(120))
        self.assertEqual((widest.rings(), widest.total(), widest.beats_of(119)), (120, 6000, 20000000))
        self.assertEqual(widest.begins(119, 49), 979999881)
        full = Plate([(40, 60)] * 3, 60, 59, even_swing(120))
        self.assertEqual((full.rings(), full.total(), full.beats_of(0)), (120, 7200, 1))

    def test_swing_between_every_two_rings(self):
        plate = Plate(*SMALL)
        told = [[plate.swing_of(ring, other) for other in range(3)] for ring in range(3)]
        self.assertEqual(told, [[0, 3, 5], [3, 0, 3], [5, 3, 0]])
        for (zones, lap, skew, swing), plate in plates():
            for ring in range(plate.rings()):
                for other in range(plate.rings()):
                    self.assertEqual(plate.swing_of(ring, other), swing[abs(ring - other)])


class TestWhatIsNoPlate(unittest.TestCase):
    def refused(self, zones, lap, skew, swing):
        with self.assertRaises(NoPlate) as caught:
            Plate(zones, lap, skew, swing)
        self.assertIs(caught.exception.__class__, NoPlate)

    def taken(self, zones, lap, skew, swing):
        self.assertEqual(Plate(zones, lap, skew, swing).rings(), len(swing))

    def test_zones(self):
        self.refused([], 12, 0, [0, 1])
        self.refused([], 12, 0, [])
        self.taken([(1, 2)] * 5, 12, 0, level_swing(5))
        self.refused([(1, 2)] * 6, 12, 0, level_swing(6))

    def test_rings_in_a_zone(self):
        self.taken([(40, 2)], 12, 0, level_swing(40))
        self.refused([(41, 2)], 12, 0, level_swing(41))
        self.taken([(1, 2), (40, 3)], 12, 0, level_swing(41))
        self.refused([(1, 2), (41, 3)], 12, 0, level_swing(42))
        self.refused([(2, 2), (0, 3)], 12, 0, level_swing(2))
        self.refused([(0, 2), (2, 3)], 12, 0, level_swing(2))
        self.refused([(3, 2), (-1, 3)], 12, 0, level_swing(2))

    def test_cells_in_a_ring(self):
        self.taken([(2, 60), (1, 1)], 60, 0, level_swing(3))
        self.refused([(2, 61)], 61, 0, level_swing(2))
        self.refused([(1, 1), (1, 61)], 61, 0, level_swing(2))
        self.refused([(2, 0)], 60, 0, level_swing(2))
        self.refused([(2, 3), (1, 0)], 60, 0, level_swing(3))
        self.refused([(2, -1)], 60, 0, level_swing(2))

    def test_rings_in_all(self):
        self.refused([(1, 2)], 12, 0, [0])
        self.taken([(2, 2)], 12, 0, [0, 1])
        self.taken([(1, 2), (1, 2)], 12, 0, [0, 1])
        self.taken([(40, 2), (40, 3), (40, 1)], 12, 0, level_swing(120))
        self.refused([(40, 2), (40, 3), (40, 1), (1, 1)], 12, 0, level_swing(121))
        self.refused([(25, 1), (24, 1), (24, 1), (24, 1), (24, 1)], 12, 0, level_swing(121))

    def test_lap(self):
        self.refused([(2, 1)], 0, 0, [0, 1])
        self.refused([(2, 1)], -1, 0, [0, 1])
        self.refused([(2, 1)], -60, -61, [0, 1])
        self.taken([(2, 1)], 1, 0, [0, 1])
        self.taken([(2, 1)], 10 ** 9, 0, [0, 1])
        self.refused([(2, 1)], 10 ** 9 + 1, 0, [0, 1])

    def test_cells_that_do_not_divide_the_lap(self):
        self.refused([(2, 5)], 12, 0, [0, 1])
        self.refused([(2, 4), (1, 5)], 12, 0, level_swing(3))
        self.refused([(1, 5), (2, 4)], 12, 0, level_swing(3))
        self.refused([(2, 4)], 2, 0, [0, 1])
        self.taken([(2, 4), (1, 6), (1, 12)], 12, 0, level_swing(4))

    def test_skew(self):
        self.refused([(2, 4)], 12, -1, [0, 1])
        self.taken([(2, 4)], 12, 0, [0, 1])
        self.taken([(2, 4)], 12, 11, [0, 1])
        self.refused([(2, 4)], 12, 12, [0, 1])
        self.refused([(2, 4)], 12, 13, [0, 1])
        self.refused([(2, 1)], 1, 1, [0, 1])

    def test_swing_of_a_wrong_length(self):
        self.refused([(3, 4)], 12, 0, [])
        self.refused([(3, 4)], 12, 0, [0])
        self.refused([(3, 4)], 12, 0, [0, 1])
        self.taken([(3, 4)], 12, 0, [0, 1, 2])
        self.refused([(3, 4)], 12, 0, [0, 1, 2, 3])

    def test_swing_that_begins_wrong(self):
        self.refused([(3, 4)], 12, 0, [1, 1, 2])
        self.refused([(3, 4)], 12, 0, [-1, 1, 2])

    def test_swing_with_a_nought_behind_the_first(self):
        self.refused([(3, 4)], 12, 0, [0, 0, 0])
        self.refused([(3, 4)], 12, 0, [0, 1, 0])
        self.refused([(2, 4)], 12, 0, [0, 0])
        self.refused([(2, 4)], 12, 0, [0, -1])

    def test_swing_that_falls(self):
        self.refused([(3, 4)], 12, 0, [0, 5, 4])
        self.refused([(4, 4)], 12, 0, [0, 5, 6, 5])
        self.taken([(4, 4)], 12, 0, [0, 5, 5, 5])

    def test_swing_beyond_the_greatest(self):
        self.taken([(3, 4)], 12, 0, [0, 10 ** 9, 10 ** 9])
        self.refused([(3, 4)], 12, 0, [0, 10 ** 9, 10 ** 9 + 1])
        self.refused([(2, 4)], 12, 0, [0, 10 ** 9 + 1])

    def test_swing_longer_than_two_that_go_as_far(self):
        self.taken([(3, 4)], 12, 0, [0, 2, 4])
        self.refused([(3, 4)], 12, 0, [0, 2, 5])
        self.taken([(4, 4)], 12, 0, [0, 2, 3, 5])
        self.refused([(4, 4)], 12, 0, [0, 2, 3, 6])
        self.taken([(5, 4)], 12, 0, [0, 5, 5, 9, 10])
        # 5 + 9 would do for the fourth, two swings by 2 would not.
        self.refused([(5, 4)], 12, 0, [0, 5, 5, 9, 11])
        self.taken([(6, 4)], 12, 0, [0, 1, 2, 3, 4, 5])
        self.refused([(6, 4)], 12, 0, [0, 1, 2, 3, 4, 6])
        self.taken([(40, 1)], 12, 0, even_swing(40))
        self.refused([(40, 1)], 12, 0, even_swing(39) + [3 * 39 + 1])

    def test_every_small_swing(self):
        for numbers in range(6 ** 4):
            swing = [0] + [numbers // 6 ** k % 6 for k in range(4)]
            good = all(number >= 1 for number in swing[1:]) and swing == sorted(swing)
            for one in range(5):
                for other in range(5 - one):
                    good = good and swing[one + other] <= swing[one] + swing[other]
            if good:
                self.taken([(5, 2)], 4, 1, swing)
            else:
                self.refused([(5, 2)], 4, 1, swing)


class TestNumbers(unittest.TestCase):
    def test_ring_by_ring(self):
        plate = Plate(*SMALL)
        told = [plate.cell_at(number) for number in range(8)]
        self.assertEqual(told, [(0, 0), (0, 1), (0, 2), (0, 3), (1, 0), (1, 1), (2, 0), (2, 1)])

    def test_back_and_forth(self):
        for (zones, lap, skew, swing), plate in plates():
            cells = all_cells(zones)
            self.assertEqual([plate.cell_at(number) for number in range(plate.total())], cells)
            self.assertEqual([plate.number_of(*cell) for cell in cells], list(range(plate.total())))

    def no_cell(self, ask, cell):
        with self.assertRaises(NoCell) as caught:
            ask()
        self.assertIs(caught.exception.__class__, NoCell)
        self.assertEqual(caught.exception.cell, cell)
        self.assertIsNone(caught.exception.ask)

    def test_numbers_that_there_are_none_of(self):
        for told, plate in plates():
            total = plate.total()
            for number in (-total - 1, -total, -2, -1, total, total + 1, 10 ** 15, -10 ** 15, 10 ** 5000):
                self.no_cell(lambda: plate.cell_at(number), number)
            self.assertEqual(plate.cell_at(0), (0, 0))
            self.assertEqual(plate.number_of(*plate.cell_at(total - 1)), total - 1)

    def test_rings_and_places_that_there_are_none_of(self):
        for told, plate in plates():
            rings = plate.rings()
            for ring in (-rings - 1, -rings, -1, rings, rings + 1, 10 ** 15):
                self.no_cell(lambda: plate.number_of(ring, 0), (ring, 0))
            for ring in range(rings):
                count = plate.cells_of(ring)
                for place in (-count, -1, count, count + 1, 10 ** 15):
                    self.no_cell(lambda: plate.number_of(ring, place), (ring, place))

    def test_a_place_of_another_zone(self):
        plate = Plate(*SMALL)
        self.assertEqual(plate.number_of(0, 2), 2)
        self.no_cell(lambda: plate.number_of(1, 2), (1, 2))


class TestListsOfOthers(unittest.TestCase):
    def test_handed_in_lists_stay_as_they_were(self):
        zones, swing = [(1, 4), (2, 2)], [0, 3, 5]
        Plate(zones, 8, 1, swing)
        self.assertEqual((zones, swing), ([(1, 4), (2, 2)], [0, 3, 5]))
        swing = [0, 5, 3]
        with self.assertRaises(NoPlate):
            Plate(zones, 8, 1, swing)
        self.assertEqual((zones, swing), ([(1, 4), (2, 2)], [0, 5, 3]))

    def test_changing_them_later_changes_nothing(self):
        zones, swing = [(1, 4), (2, 2)], [0, 3, 5]
        plate = Plate(zones, 8, 1, swing)
        zones[0] = (3, 8)
        zones.append((1, 1))
        swing[1] = 1
        swing.pop()
        self.assertEqual(tells(plate), tells(Plate(*SMALL)))

    def test_two_plates_keep_apart(self):
        swing = [0, 3, 5]
        one = Plate([(1, 4), (2, 2)], 8, 1, swing)
        other = Plate([(3, 4)], 8, 0, swing)
        self.assertEqual(tells(one), tells(Plate(*SMALL)))
        self.assertEqual((one.total(), other.total()), (8, 12))


if __name__ == "__main__":
    unittest.main()
