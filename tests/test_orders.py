import random
import unittest

from armswing.asks import reading, resting, writing
from armswing.errors import NoCell, NoOrder
from armswing.mended import Mended
from armswing.orders import Due, orders, stretch
from armswing.plates import Plate
from samples import MENDED, ONE_ZONE, SMALL, fields, tells

PLATE = Plate(*SMALL)


class TestStretch(unittest.TestCase):
    def test_on_a_plate(self):
        self.assertEqual(stretch(PLATE, reading(0, 1, 0)), [(0, 0)])
        self.assertEqual(stretch(PLATE, reading(3, 3, 9)), [(0, 3), (1, 0), (1, 1)])
        self.assertEqual(stretch(PLATE, writing(6, [5, 5], 0)), [(2, 0), (2, 1)])

    def test_on_a_mended_plate(self):
        mended = Mended(*SMALL, 1, [(1, 0)])
        # Numbers 3 and 4 have the only cells of rings 1 and 2; that of 3 is bad and laid to (1, 1).
        self.assertEqual(stretch(mended, reading(2, 3, 0)), [(0, 2), (1, 1), (2, 0)])
        for told in MENDED:
            mended = Mended(*told)
            for first in range(mended.total()):
                many = min(16, mended.total() - first)
                cells = [mended.cell_at(number) for number in range(first, first + many)]
                self.assertEqual(stretch(mended, reading(first, many, 0)), cells)

    def test_of_a_rest(self):
        self.assertEqual(stretch(PLATE, resting(5)), [])

    def test_cells_that_the_plate_has_not(self):
        self.assertEqual(stretch(PLATE, reading(7, 1, 0)), [(2, 1)])
        for ask, number in ((reading(8, 1, 0), 8), (reading(7, 4, 0), 8), (writing(0, [1] * 9, 0), 8),
                            (writing(10 ** 6, [1], 0), 10 ** 6)):
            with self.assertRaises(NoCell) as caught:
                stretch(PLATE, ask)
            self.assertEqual((caught.exception.cell, caught.exception.ask), (number, None))

    def test_a_mended_plate_has_fewer(self):
        with self.assertRaises(NoCell) as caught:
            stretch(Mended(*SMALL, 1, []), reading(3, 4, 0))
        self.assertEqual((caught.exception.cell, caught.exception.ask), (5, None))

    def test_what_is_told_is_the_askers_own(self):
        ask = reading(0, 2, 0)
        stretch(PLATE, ask).clear()
        self.assertEqual(stretch(PLATE, ask), [(0, 0), (0, 1)])


class TestDue(unittest.TestCase):
    def test_fields(self):
        ask = reading(3, 3, 9)
        due = Due(PLATE, 42, ask)
        self.assertEqual((due.number, due.cells), (42, [(0, 3), (1, 0), (1, 1)]))
        self.assertIs(due.ask, ask)
        made = Due(plate=Mended(*SMALL, 1, [(1, 0)]), number=0, ask=writing(3, [1], 0))
        self.assertEqual((made.number, made.cells), (0, [(1, 1)]))

    def test_cells_that_the_plate_has_not(self):
        with self.assertRaises(NoCell) as caught:
            Due(PLATE, 17, reading(6, 4, 0))
        self.assertEqual((caught.exception.cell, caught.exception.ask), (8, 17))
        with self.assertRaises(NoCell) as caught:
            Due(PLATE, 0, writing(9, [1], 0))
        self.assertEqual((caught.exception.cell, caught.exception.ask), (9, 0))


class TestOrders(unittest.TestCase):
    def test_none_and_one(self):
        self.assertEqual(orders(PLATE, []), [])
        self.assertEqual(orders(PLATE, [reading(0, 1, 0)]), [()])
        self.assertEqual(orders(PLATE, [resting(0)]), [()])

    def test_clashes(self):
        row = [writing(0, [1, 2], 0), reading(1, 2, 0), reading(0, 1, 0), writing(1, [7], 0), reading(5, 1, 0),
               writing(0, [1] * 8, 0)]
        self.assertEqual(orders(PLATE, row), [(), (0,), (0,), (0, 1), (), (0, 1, 2, 3, 4)])

    def test_told_numbers(self):
        row = [reading(0, 1, 0), reading(0, 1, 0), reading(0, 1, 1, behind=[0]), reading(0, 1, 1, behind=[0, 1, 2])]
        self.assertEqual(orders(PLATE, row), [(), (), (0,), (0, 1, 2)])

    def test_both(self):
        row = [reading(5, 1, 0), writing(0, [1], 0), reading(4, 1, 0), reading(0, 1, 0, behind=[0, 1]),
               writing(5, [3], 0, behind=[1, 3])]
        self.assertEqual(orders(PLATE, row), [(), (), (), (0, 1), (0, 1, 3)])

    def test_nothing_follows_by_others(self):
        # 2 keeps behind 1 and 1 behind 0, but 2 has nothing with 0.
        row = [writing(0, [1], 0), writing(0, [1, 1], 0), writing(1, [1], 0)]
        self.assertEqual(orders(PLATE, row), [(), (0,), (1,)])

    def test_one_ask_more_than_once(self):
        write, read = writing(0, [4], 3), reading(0, 1, 3)
        self.assertEqual(orders(PLATE, [write, write, read, read, write]), [(), (0,), (0, 1), (0, 1), (0, 1, 2, 3)])
        read = reading(2, 1, 3, behind=[0])
        self.assertEqual(orders(PLATE, [write, read, read]), [(), (0,), (0,)])

    def test_rests(self):
        row = [resting(0), writing(0, [1], 0), resting(4), reading(0, 1, 4, behind=[1]), resting(4)]
        self.assertEqual(orders(PLATE, row), [(), (), (), (1,), ()])

    def test_rising_and_each_once(self):
        rng = random.Random(15)
        for each in range(60):
            row = []
            for number in range(rng.randrange(1, 30)):
                behind = sorted(rng.sample(range(number), rng.randrange(min(4, number + 1))))
                first = rng.randrange(6)
                if rng.randrange(2):
                    row.append(reading(first, rng.randrange(1, 3), 0, behind=behind))
                else:
                    row.append(writing(first, [1] * rng.randrange(1, 3), 0, behind=behind))
            for number, told in enumerate(orders(PLATE, row)):
                ask = row[number]
                found = set(ask.behind)
                for other in range(number):
                    common = set(stretch(PLATE, ask)) & set(stretch(PLATE, row[other]))
                    if common and "write" in (ask.kind, row[other].kind):
                        found.add(other)
                self.assertEqual(told, tuple(sorted(found)))

    def test_a_hundred(self):
        told = orders(PLATE, [writing(0, [number], number) for number in range(100)])
        self.assertEqual(told, [tuple(range(number)) for number in range(100)])


class TestRefusals(unittest.TestCase):
    def no_order(self, row, ask, other):
        with self.assertRaises(NoOrder) as caught:
            orders(PLATE, row)
        self.assertIs(caught.exception.__class__, NoOrder)
        self.assertEqual((caught.exception.ask, caught.exception.other), (ask, other))

    def no_cell(self, row, cell, ask):
        with self.assertRaises(NoCell) as caught:
            orders(PLATE, row)
        self.assertIs(caught.exception.__class__, NoCell)
        self.assertEqual((caught.exception.cell, caught.exception.ask), (cell, ask))

    def test_a_beat_below_that_of_the_ask_ahead(self):
        self.no_order([reading(0, 1, 5), reading(0, 1, 4)], 1, 0)
        self.no_order([reading(0, 1, 0), reading(0, 1, 5), resting(6), writing(0, [1], 5)], 3, 2)
        self.no_order([reading(0, 1, 1), resting(0)], 1, 0)
        self.assertEqual(orders(PLATE, [reading(0, 1, 5), resting(5), reading(0, 1, 5)]), [(), (), ()])
        # It is the ask just ahead that counts: 3 stands behind 2.
        self.no_order([reading(0, 1, 3), reading(0, 1, 2), reading(0, 1, 1)], 1, 0)

    def test_a_cell_that_the_plate_has_not(self):
        self.no_cell([reading(8, 1, 0)], 8, 0)
        self.no_cell([reading(0, 1, 0), resting(0), writing(6, [1, 2, 3, 4], 0)], 8, 2)
        self.no_cell([reading(7, 1, 0), reading(7, 2, 0), reading(9, 2, 0)], 8, 1)

    def test_told_numbers_that_are_no_asks_ahead(self):
        self.no_order([reading(0, 1, 0, behind=[0])], 0, 0)
        self.no_order([reading(0, 1, 0, behind=[1]), reading(0, 1, 0)], 0, 1)
        self.no_order([reading(0, 1, 0), reading(0, 1, 0, behind=[0, 1, 99])], 1, 1)
        self.no_order([reading(0, 1, 0), reading(0, 1, 0, behind=[0, 99])], 1, 99)

    def test_told_numbers_of_rests(self):
        self.no_order([resting(0), reading(0, 1, 0, behind=[0])], 1, 0)
        self.no_order([reading(0, 1, 0), resting(0), resting(0), writing(0, [1], 0, behind=[0, 1, 2])], 3, 1)

    def test_from_the_left(self):
        # 1 is a rest, 5 no ask ahead: the first from the left counts.
        self.no_order([reading(0, 1, 0), resting(0), reading(0, 1, 0, behind=[0, 1, 5])], 2, 1)

    def test_beat_ahead_of_cells_ahead_of_told_numbers(self):
        self.no_order([reading(0, 1, 5), reading(8, 1, 4, behind=[7])], 1, 0)
        self.no_cell([reading(0, 1, 5), reading(8, 1, 5, behind=[7])], 8, 1)
        self.no_order([reading(0, 1, 5), reading(7, 1, 5, behind=[7])], 1, 7)

    def test_the_first_ask_that_is_wrong_counts(self):
        self.no_order([reading(0, 1, 5, behind=[3]), reading(0, 1, 4), reading(8, 1, 9)], 0, 3)
        self.no_cell([reading(0, 1, 5), reading(8, 1, 9), reading(0, 1, 4)], 8, 1)
        self.no_order([reading(0, 1, 5), reading(0, 1, 9, behind=[2]), reading(8, 1, 4)], 1, 2)

    def test_on_a_mended_plate(self):
        mended = Mended(*SMALL, 1, [(1, 0)])
        self.assertEqual(orders(mended, [writing(3, [1, 2], 0), reading(4, 1, 0)]), [(), (0,)])
        with self.assertRaises(NoCell) as caught:
            orders(mended, [reading(0, 1, 0), reading(4, 2, 0)])
        self.assertEqual((caught.exception.cell, caught.exception.ask), (5, 1))


class TestWhatIsHandedIn(unittest.TestCase):
    def test_it_stays(self):
        plate = Mended(*ONE_ZONE, 2, [(1, 0), (0, 2)])
        row = [writing(0, [1, 2], 0, behind=[]), reading(1, 2, 4, behind=[0]), resting(5)]
        ahead, seen = tells(plate), [fields(ask) for ask in row]
        same = list(row)
        told = orders(plate, row)
        Due(plate, 1, row[1])
        stretch(plate, row[0])
        told.clear()
        self.assertEqual((tells(plate), [fields(ask) for ask in row]), (ahead, seen))
        self.assertTrue(all(ask is other for ask, other in zip(row, same)) and len(row) == len(same))
        self.assertEqual(orders(plate, row), [(), (0,), ()])
        row.append(reading(0, 1, 0))
        with self.assertRaises(NoOrder):
            orders(plate, row)
        self.assertEqual(len(row), 4)


if __name__ == "__main__":
    unittest.main()
