import random
import unittest

from armswing.asks import reading, resting, writing
from armswing.books import first_wrong
from armswing.errors import NoCell, NoOrder
from armswing.orders import orders, stretch
from armswing.plates import Plate
from armswing.plays import play
from armswing.rules import First
from armswing.ways import way
from rows import MADE, RULES, some_row
from samples import SMALL, fields, tells

PLATE = Plate(*SMALL)
# Cells 0 and 1 end at 2 and 4; cell 5 goes from 13 to 17, cell 6 from 26 to 30.
ROW = [writing(0, [1, 2], 0), reading(5, 1, 0), resting(1), reading(6, 1, 2)]
BOOK = play(PLATE, ROW, First()).rows


def by_hand(plate, row, book, ring):
    """Point 37 with nothing but orders, stretch and way."""
    kept, beat, index = orders(plate, row), 0, 0
    left = [number for number, ask in enumerate(row) if ask.kind != "rest"]
    while left:
        beat = max(beat, min(row[number].at for number in left))
        dues = [number for number in left if row[number].at <= beat and not set(kept[number]) & set(left)]
        if index == len(book) or book[index][0] not in dues:
            return index
        number = book[index][0]
        for told in way(plate, ring, beat, stretch(plate, row[number])):
            if index == len(book) or book[index] != (number,) + told:
                return index
            ring, beat, index = told[0], told[3], index + 1
        left.remove(number)
    return None if index == len(book) else index


class TestRightBooks(unittest.TestCase):
    def test_of_plays_by_every_rule(self):
        rng = random.Random(37)
        for plate in MADE:
            for make in RULES:
                for each in range(4):
                    row, ring = some_row(rng, plate, 12), rng.randrange(plate.rings())
                    book = play(plate, row, make(), ring).rows
                    self.assertIsNone(first_wrong(plate, row, book, ring))
                    for length in {0, len(book) // 2, max(0, len(book) - 1)}:
                        if length < len(book):
                            self.assertEqual(first_wrong(plate, row, book[:length], ring), length)

    def test_no_asks_and_rests_alone(self):
        for row in ([], [resting(0), resting(5)]):
            self.assertIsNone(first_wrong(PLATE, row, []))
            self.assertIsNone(first_wrong(PLATE, row, [], 2))
            self.assertEqual(first_wrong(PLATE, row, [(0, 0, 0, 0, 2)]), 0)

    def test_the_ring_at_beat_0(self):
        book = play(PLATE, ROW, First(), 2).rows
        self.assertIsNone(first_wrong(PLATE, ROW, book, 2))
        self.assertIsNone(first_wrong(plate=PLATE, asks=ROW, rows=book, ring=2))
        self.assertEqual(first_wrong(PLATE, ROW, book), 0)
        self.assertIsNone(first_wrong(PLATE, ROW, BOOK))


class TestWrongBooks(unittest.TestCase):
    def test_by_hand(self):
        self.assertEqual(BOOK, [(0, 0, 0, 0, 2), (0, 0, 1, 2, 4), (1, 1, 1, 13, 17), (3, 2, 0, 26, 30)])
        self.assertEqual(first_wrong(PLATE, ROW, []), 0)
        self.assertEqual(first_wrong(PLATE, ROW, BOOK[:3]), 3)
        # The cells of ask 0 are not all gone over.
        self.assertEqual(first_wrong(PLATE, ROW, BOOK[:1]), 1)
        self.assertEqual(first_wrong(PLATE, ROW, BOOK[:1] + BOOK[2:]), 1)
        self.assertEqual(first_wrong(PLATE, ROW, BOOK + BOOK[-1:]), 4)
        self.assertEqual(first_wrong(PLATE, ROW, BOOK + [(2, 0, 0, 30, 30)]), 4)
        self.assertEqual(first_wrong(PLATE, ROW, BOOK[:2] + [(2, 0, 0, 4, 4)] + BOOK[2:]), 2)

    def test_asks_that_could_not_be_taken(self):
        # Ask 3 has not come by beat 0.
        self.assertEqual(first_wrong(PLATE, ROW, [(3, 2, 0, 10, 14)]), 0)
        row = [writing(0, [1], 0), reading(0, 1, 0), reading(1, 1, 0, behind=[1])]
        self.assertEqual(first_wrong(PLATE, row, [(1, 0, 0, 0, 2)]), 0)
        self.assertEqual(first_wrong(PLATE, row, [(0, 0, 0, 0, 2), (2, 0, 1, 2, 4)]), 1)
        self.assertIsNone(first_wrong(PLATE, row, [(0, 0, 0, 0, 2), (1, 0, 0, 8, 10), (2, 0, 1, 10, 12)]))

    def test_the_arm_stays_where_none_has_come(self):
        row = [reading(0, 1, 5), reading(3, 1, 20)]
        self.assertIsNone(first_wrong(PLATE, row, [(0, 0, 0, 8, 10), (1, 0, 3, 22, 24)]))
        self.assertEqual(first_wrong(PLATE, row, [(0, 0, 0, 0, 2), (1, 0, 3, 22, 24)]), 0)
        self.assertEqual(first_wrong(PLATE, row, [(0, 0, 0, 8, 10), (1, 0, 3, 14, 16)]), 1)
        # It is free again as ask 0 comes, so that ask 1 can't be taken first.
        self.assertEqual(first_wrong(PLATE, row, [(1, 0, 3, 22, 24), (0, 0, 0, 24, 26)]), 0)

    def test_any_one_that_could_be_taken(self):
        row = [reading(0, 1, 0), reading(1, 1, 0)]
        self.assertIsNone(first_wrong(PLATE, row, [(0, 0, 0, 0, 2), (1, 0, 1, 2, 4)]))
        self.assertIsNone(first_wrong(PLATE, row, [(1, 0, 1, 2, 4), (0, 0, 0, 8, 10)]))

    def test_every_number_changed(self):
        for index in range(len(BOOK)):
            for field in range(5):
                for change in (-10 ** 20, -1, 1, 10 ** 20, -len(ROW)):
                    told = list(BOOK[index])
                    told[field] = told[field] + change
                    book = BOOK[:index] + [tuple(told)] + BOOK[index + 1:]
                    self.assertEqual(first_wrong(PLATE, ROW, book), index)

    def test_numbers_that_there_are_none_of(self):
        for wrong in ((-1, 0, 0, 0, 2), (-4, 0, 0, 0, 2), (4, 0, 0, 0, 2), (10 ** 30, 0, 0, 0, 2), (0, -3, 0, 0, 2),
                      (0, 0, -4, 0, 2), (0, 3, 0, 0, 2), (0, 0, 4, 0, 2), (0, 0, 0, -8, -6), (0, 0, 0, 8, 10)):
            self.assertEqual(first_wrong(PLATE, ROW, [wrong] + BOOK[1:]), 0)

    def test_against_its_words(self):
        rng = random.Random(371)
        for plate in MADE:
            for each in range(80):
                row, ring = some_row(rng, plate, 9), rng.randrange(plate.rings())
                book = play(plate, row, rng.choice(RULES)(), ring).rows
                wrong = self.changed(rng, book)
                self.assertEqual(first_wrong(plate, row, wrong, ring), by_hand(plate, row, wrong, ring))

    def changed(self, rng, book):
        book = list(book)
        if not book:
            return [(0, 0, 0, 0, 1)] * rng.randrange(2)
        one, other = rng.randrange(len(book)), rng.randrange(len(book))
        way_of_change = rng.randrange(5)
        if way_of_change == 0:
            book[one], book[other] = book[other], book[one]
        elif way_of_change == 1:
            book.insert(one, book[other])
        elif way_of_change == 2:
            book.pop(one)
        elif way_of_change == 3:
            told = list(book[one])
            told[rng.randrange(5)] = rng.choice([-1, 0, 1, 10 ** 18, told[4]])
            book[one] = tuple(told)
        else:
            book.insert(one, tuple(rng.randrange(-2, 9) for each in range(5)))
        return book


class TestRefusals(unittest.TestCase):
    def test_as_orders_does(self):
        with self.assertRaises(NoCell) as caught:
            first_wrong(PLATE, [reading(0, 1, 0), reading(7, 2, 0)], [])
        self.assertEqual((caught.exception.cell, caught.exception.ask), (8, 1))
        with self.assertRaises(NoOrder) as caught:
            first_wrong(PLATE, [reading(0, 1, 5), reading(0, 1, 4)], BOOK)
        self.assertEqual((caught.exception.ask, caught.exception.other), (1, 0))

    def test_what_is_handed_in_stays(self):
        book, same = list(BOOK), list(ROW)
        ahead, seen = tells(PLATE), [fields(ask) for ask in ROW]
        first_wrong(PLATE, ROW, book)
        first_wrong(PLATE, ROW, book[:2])
        self.assertEqual((book, tells(PLATE), [fields(ask) for ask in ROW]), (BOOK, ahead, seen))
        self.assertTrue(all(ask is other for ask, other in zip(ROW, same)))


if __name__ == "__main__":
    unittest.main()
