import itertools
import unittest

from armswing.errors import NoCell, NoPlate, NoSpare
from armswing.mended import Mended
from armswing.plates import Plate
from samples import MENDED, ONE_ZONE, PLATES, SMALL, all_cells, level_swing, rings_of


def where_laid(zones, spares, bad):
    """What point 10 says, cell by cell: ("laid", tuples) or ("none", number)."""
    counts = rings_of(zones)
    with_numbers = [cell for cell in all_cells(zones) if cell[1] < counts[cell[0]] - spares]
    kept = [cell for cell in all_cells(zones) if cell[1] >= counts[cell[0]] - spares]
    free = [cell for cell in kept if cell not in bad]
    told = []
    for number, cell in enumerate(with_numbers):
        if cell not in bad:
            continue
        if not free:
            return ("none", number)
        other = min(free, key=lambda one: (abs(one[0] - cell[0]), one[0], one[1]))
        free.remove(other)
        told.append((number, cell, other))
    return ("laid", told)


class TestNumbers(unittest.TestCase):
    def test_the_last_places_have_none(self):
        plate = Mended(*SMALL, 1, [])
        self.assertEqual(plate.total(), 5)
        told = [plate.cell_at(number) for number in range(5)]
        self.assertEqual(told, [(0, 0), (0, 1), (0, 2), (1, 0), (2, 0)])
        self.assertEqual([plate.number_of(*cell) for cell in told], [0, 1, 2, 3, 4])
        self.assertEqual([plate.number_of(0, 3), plate.number_of(1, 1), plate.number_of(2, 1)], [None] * 3)

    def test_bad_cells_have_numbers_too(self):
        plate = Mended(*ONE_ZONE, 2, [(0, 0), (0, 5), (1, 3)])
        self.assertEqual(plate.total(), 12)
        self.assertEqual(plate.cell_at(1), (0, 1))
        self.assertEqual(plate.cell_at(8), (2, 0))

    def test_it_is_a_plate_with_all_its_rings_and_cells(self):
        for told in MENDED:
            mended, plate = Mended(*told), Plate(*told[:4])
            self.assertIsInstance(mended, Plate)
            self.assertEqual(mended.total(), plate.total() - told[4] * plate.rings())
            self.assertEqual((mended.rings(), mended.lap_beats()), (plate.rings(), plate.lap_beats()))
            for ring in range(plate.rings()):
                self.assertEqual(mended.cells_of(ring), plate.cells_of(ring))
                self.assertEqual(mended.beats_of(ring), plate.beats_of(ring))
                for other in range(plate.rings()):
                    self.assertEqual(mended.swing_of(ring, other), plate.swing_of(ring, other))
            for cell in all_cells(told[0]):
                self.assertEqual(mended.begins(*cell), plate.begins(*cell))

    def test_numbers_and_cells_that_there_are_none_of(self):
        for told in MENDED:
            plate = Mended(*told)
            for number in (-plate.total(), -1, plate.total(), plate.total() + 1, 10 ** 15):
                with self.assertRaises(NoCell) as caught:
                    plate.cell_at(number)
                self.assertEqual((caught.exception.cell, caught.exception.ask), (number, None))
            for cell in ((-1, 0), (plate.rings(), 0), (0, -1), (0, plate.cells_of(0)), (1, plate.cells_of(1))):
                with self.assertRaises(NoCell) as caught:
                    plate.number_of(*cell)
                self.assertEqual((caught.exception.cell, caught.exception.ask), (cell, None))


class TestSpares(unittest.TestCase):
    def refused(self, *told):
        with self.assertRaises(NoPlate) as caught:
            Mended(*told)
        self.assertIs(caught.exception.__class__, NoPlate)

    def test_edges(self):
        self.refused(*ONE_ZONE, -1, [])
        self.assertEqual(Mended(*ONE_ZONE, 0, []).total(), 18)
        self.assertEqual(Mended(*ONE_ZONE, 5, []).total(), 3)
        self.refused(*ONE_ZONE, 6, [])
        self.refused(*ONE_ZONE, 7, [])
        self.refused(*ONE_ZONE, 10 ** 9, [])

    def test_the_least_cells_count_wherever_their_zone_stands(self):
        for zones in ([(1, 4), (2, 2)], [(2, 2), (1, 4)], [(1, 4), (1, 2), (1, 4)]):
            self.assertEqual(Mended(zones, 8, 1, [0, 3, 5], 1, []).total(), sum(rings_of(zones)) - 3)
            self.refused(zones, 8, 1, [0, 3, 5], 2, [])
        self.assertEqual(Mended([(2, 1)], 1, 0, [0, 1], 0, []).total(), 2)
        self.refused([(2, 1)], 1, 0, [0, 1], 1, [])

    def test_ahead_of_what_bad_cells_are_refused_for(self):
        for bad in ([(9, 9)], [(-1, 0)], [(0, 0), (0, 0)], [(ring, 0) for ring in range(3)]):
            self.refused(*ONE_ZONE, -1, bad)
            self.refused(*ONE_ZONE, 6, bad)

    def test_what_is_no_plate_goes_ahead_of_bad_cells(self):
        for bad in ([], [(9, 9)], [(0, 0), (0, 0)], [(0, 0)]):
            self.refused([], 12, 0, [], 0, bad)
            self.refused([(1, 6)], 12, 0, [0], 0, bad)
            self.refused([(3, 0)], 12, 0, [0, 2, 4], 0, bad)
            self.refused([(3, 5)], 12, 0, [0, 2, 4], 0, bad)
            self.refused([(3, 6)], 0, 0, [0, 2, 4], 0, bad)
            self.refused([(3, 6)], 12, 12, [0, 2, 4], 0, bad)
            self.refused([(3, 6)], 12, 0, [0, 2, 5], 0, bad)


class TestLaid(unittest.TestCase):
    def check(self, zones, lap, skew, swing, spares, bad):
        word, told = where_laid(zones, spares, bad)
        if word == "none":
            with self.assertRaises(NoSpare) as caught:
                Mended(zones, lap, skew, swing, spares, bad)
            self.assertIs(caught.exception.__class__, NoSpare)
            self.assertEqual(caught.exception.cell, told)
            return
        plate = Mended(zones, lap, skew, swing, spares, bad)
        self.assertEqual(plate.laid(), told)
        for number, cell, other in told:
            self.assertEqual(plate.cell_at(number), other)
            self.assertEqual(plate.number_of(*other), number)
            self.assertIsNone(plate.number_of(*cell))
        cells = [plate.cell_at(number) for number in range(plate.total())]
        self.assertEqual(len(set(cells)), len(cells))
        self.assertFalse(set(cells) & set(bad))
        for cell in all_cells(zones):
            lies = cells.index(cell) if cell in cells else None
            self.assertEqual(plate.number_of(*cell), lies)

    def test_on_its_own_ring_at_the_least_place(self):
        plate = Mended(*ONE_ZONE, 2, [(1, 2)])
        self.assertEqual(plate.laid(), [(6, (1, 2), (1, 4))])
        self.assertEqual((plate.cell_at(6), plate.number_of(1, 4)), ((1, 4), 6))
        self.assertEqual((plate.number_of(1, 2), plate.number_of(1, 5)), (None, None))

    def test_of_two_rings_on_the_lesser_one(self):
        # Of ring 1's bad cells the first two stay there, the next go to ring 0, then to ring 2.
        plate = Mended(*ONE_ZONE, 2, [(1, place) for place in range(4)])
        self.assertEqual([other for number, cell, other in plate.laid()], [(1, 4), (1, 5), (0, 4), (0, 5)])
        plate = Mended(*ONE_ZONE, 2, [(1, place) for place in range(4)] + [(0, 4), (0, 5)])
        self.assertEqual([other for number, cell, other in plate.laid()], [(1, 4), (1, 5), (2, 4), (2, 5)])

    def test_the_nearer_ring_goes_ahead_of_the_lesser_one(self):
        plate = Mended([(5, 2)], 4, 0, level_swing(5), 1, [(3, 0), (3, 1), (2, 1)])
        self.assertEqual(plate.laid(), [(3, (3, 0), (4, 1))])

    def test_the_least_number_first_however_they_are_told(self):
        for bad in itertools.permutations([(0, 0), (1, 0), (1, 1)]):
            plate = Mended([(3, 2)], 4, 0, level_swing(3), 1, list(bad))
            self.assertEqual(plate.laid(), [(0, (0, 0), (0, 1)), (1, (1, 0), (2, 1))])
        for bad in itertools.permutations([(2, 0), (1, 0), (1, 1), (0, 1)]):
            plate = Mended([(4, 2)], 4, 0, level_swing(4), 1, list(bad))
            self.assertEqual(plate.laid(), [(1, (1, 0), (2, 1)), (2, (2, 0), (3, 1))])

    def test_bad_kept_cells_are_not_laid_and_nothing_is_laid_there(self):
        plate = Mended(*ONE_ZONE, 2, [(1, 4), (1, 0)])
        self.assertEqual(plate.laid(), [(4, (1, 0), (1, 5))])
        self.assertIsNone(plate.number_of(1, 4))
        self.assertEqual(Mended(*ONE_ZONE, 2, [(1, 4)]).laid(), [])

    def test_places_kept_differ_from_zone_to_zone(self):
        plate = Mended(*SMALL, 1, [(1, 0), (1, 1), (2, 0)])
        self.assertEqual(plate.laid(), [(3, (1, 0), (0, 3)), (4, (2, 0), (2, 1))])

    def test_mended_samples(self):
        for told in MENDED:
            self.check(*told)

    def test_all_sets_of_bad_cells_on_small_plates(self):
        for zones, lap, swing in (([(3, 2)], 2, [0, 1, 1]), ([(1, 3), (2, 2)], 6, [0, 1, 2]),
                                  ([(2, 2), (1, 4)], 4, [0, 5, 6])):
            cells = all_cells(zones)
            for spares in (0, 1):
                for marks in itertools.product((False, True), repeat=len(cells)):
                    bad = [cell for cell, mark in zip(cells, marks) if mark]
                    self.check(zones, lap, 1, swing, spares, bad)
                    self.check(zones, lap, 1, swing, spares, bad[::-1])

    def test_sixty_bad_cells(self):
        zones = [(10, 20)]
        for spares in (6, 5):
            bad = [(ring, place) for place in range(12) for ring in (9, 0, 4, 5, 8)]
            self.assertEqual(len(bad), 60)
            self.check(zones, 20, 3, level_swing(10), spares, bad)

    def test_more_than_sixty_are_not_refused_for_that(self):
        bad = [(ring, place) for ring in range(10) for place in range(7)]
        self.check([(10, 20)], 20, 3, level_swing(10), 8, bad)


class TestBadPairs(unittest.TestCase):
    def no_cell(self, spares, bad, pair):
        with self.assertRaises(NoCell) as caught:
            Mended(*SMALL, spares, bad)
        self.assertIs(caught.exception.__class__, NoCell)
        self.assertEqual((caught.exception.cell, caught.exception.ask), (pair, None))

    def test_pairs_that_are_no_cells(self):
        for pair in ((-1, 0), (-3, 0), (3, 0), (4, 0), (0, -1), (0, 4), (1, 2), (2, 2), (2, 3), (10 ** 9, 10 ** 9)):
            self.no_cell(1, [pair], pair)
            self.no_cell(0, [pair], pair)
            self.no_cell(1, [(0, 0), pair, (0, 1)], pair)

    def test_edges_of_the_rings_are_cells(self):
        for pair in ((0, 0), (0, 3), (1, 1), (2, 1), (2, 0)):
            self.assertIsNone(Mended(*SMALL, 1, [pair]).number_of(*pair))

    def test_pairs_that_stood_ahead(self):
        self.no_cell(1, [(0, 0), (0, 0)], (0, 0))
        self.no_cell(1, [(1, 0), (0, 0), (2, 1), (0, 0), (1, 0)], (0, 0))
        self.no_cell(1, [(0, 3), (1, 0), (0, 3)], (0, 3))

    def test_the_first_from_the_left_counts(self):
        self.no_cell(1, [(0, 0), (0, 0), (9, 9)], (0, 0))
        self.no_cell(1, [(0, 0), (9, 9), (0, 0)], (9, 9))
        self.no_cell(1, [(9, 9), (9, 9)], (9, 9))
        self.no_cell(1, [(3, 0), (2, 2)], (3, 0))
        self.no_cell(1, [(2, 2), (3, 0)], (2, 2))

    def test_ahead_of_a_want_of_spares(self):
        self.no_cell(0, [(0, 0), (1, 0), (9, 9)], (9, 9))
        self.no_cell(0, [(0, 0), (0, 0)], (0, 0))


class TestNoSpare(unittest.TestCase):
    def no_spare(self, told, number):
        with self.assertRaises(NoSpare) as caught:
            Mended(*told)
        self.assertIs(caught.exception.__class__, NoSpare)
        self.assertEqual(caught.exception.cell, number)

    def test_the_first_number_without_one(self):
        self.no_spare(SMALL + (0, [(2, 1), (1, 0)]), 4)
        self.no_spare(SMALL + (0, [(0, 0)]), 0)
        self.no_spare(SMALL + (1, [(0, 3), (1, 1), (2, 1), (2, 0), (0, 2)]), 2)
        self.no_spare(SMALL + (1, [(2, 0), (0, 0), (0, 1), (0, 2)]), 4)
        self.no_spare(SMALL + (1, [(2, 0), (1, 0), (0, 0), (0, 1), (0, 2)]), 3)

    def test_just_enough(self):
        self.assertEqual([row[0] for row in Mended(*SMALL, 1, [(2, 0), (0, 0), (1, 0)]).laid()], [0, 3, 4])


class TestAsThePlate(unittest.TestCase):
    def test_without_spares_and_bad_cells(self):
        for told in PLATES:
            mended, plate = Mended(*told, 0, []), Plate(*told)
            self.assertEqual(mended.laid(), [])
            self.assertEqual((mended.rings(), mended.total(), mended.lap_beats()),
                             (plate.rings(), plate.total(), plate.lap_beats()))
            for number in range(plate.total()):
                self.assertEqual(mended.cell_at(number), plate.cell_at(number))
            for cell in all_cells(told[0]):
                self.assertEqual(mended.number_of(*cell), plate.number_of(*cell))
                self.assertEqual(mended.begins(*cell), plate.begins(*cell))
            for ring in range(plate.rings()):
                self.assertEqual(mended.cells_of(ring), plate.cells_of(ring))
                self.assertEqual(mended.beats_of(ring), plate.beats_of(ring))
                self.assertEqual(mended.swing_of(ring, 0), plate.swing_of(ring, 0))


class TestListsOfOthers(unittest.TestCase):
    def test_handed_in_lists_stay_as_they_were(self):
        zones, swing, bad = [(3, 6)], [0, 2, 4], [(2, 0), (0, 0), (1, 4)]
        Mended(zones, 12, 5, swing, 2, bad)
        self.assertEqual((zones, swing, bad), ([(3, 6)], [0, 2, 4], [(2, 0), (0, 0), (1, 4)]))
        bad = [(2, 0), (0, 0)]
        with self.assertRaises(NoSpare):
            Mended(zones, 12, 5, swing, 0, bad)
        self.assertEqual((zones, swing, bad), ([(3, 6)], [0, 2, 4], [(2, 0), (0, 0)]))

    def test_changing_them_later_changes_nothing(self):
        zones, swing, bad = [(3, 6)], [0, 2, 4], [(2, 0), (0, 0)]
        plate = Mended(zones, 12, 5, swing, 2, bad)
        bad[0] = (1, 1)
        bad.append((2, 3))
        zones.append((1, 1))
        swing[2] = 3
        self.assertEqual(plate.laid(), [(0, (0, 0), (0, 4)), (8, (2, 0), (2, 4))])
        self.assertEqual((plate.number_of(2, 0), plate.number_of(1, 1), plate.number_of(2, 3)), (None, 5, 11))
        self.assertEqual((plate.rings(), plate.swing_of(0, 2)), (3, 4))

    def test_changing_a_told_list_changes_nothing(self):
        plate = Mended(*ONE_ZONE, 2, [(2, 0), (0, 0)])
        told = plate.laid()
        told[0] = (5, (1, 1), (1, 5))
        told.append((1, (0, 1), (0, 5)))
        again = plate.laid()
        self.assertEqual(again, [(0, (0, 0), (0, 4)), (8, (2, 0), (2, 4))])
        again.clear()
        self.assertEqual(len(plate.laid()), 2)
        self.assertEqual((plate.cell_at(0), plate.cell_at(8), plate.number_of(1, 5)), ((0, 4), (2, 4), None))


if __name__ == "__main__":
    unittest.main()
