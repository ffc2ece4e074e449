import random
import unittest

from armswing.asks import reading, writing
from armswing.errors import NoCell, NoOrder, NoRule, TooMany
from armswing.leastways import bound_of, how_far, least_way, may_be_next
from armswing.orders import Due
from armswing.plates import Plate
from armswing.plays import play
from armswing.rules import First, Nearest
from armswing.shares import Shares
from rows import MADE, RULES
from samples import SMALL, fields, tells
from trees import all_orders, cut, few_dues, goes, numbers

PLATE = Plate(*SMALL)


def due(number, ask):
    return Due(PLATE, number, ask)


class TestMayBeNext(unittest.TestCase):
    def test_none_and_one(self):
        self.assertEqual(may_be_next([]), [])
        self.assertEqual(may_be_next([due(9, writing(0, [1], 0, behind=[3]))]), [9])

    def test_clashes(self):
        write, read = writing(0, [1, 2], 0), reading(1, 2, 0)
        self.assertEqual(may_be_next([due(2, write), due(5, read)]), [2])
        self.assertEqual(may_be_next([due(2, read), due(5, write)]), [2])
        self.assertEqual(may_be_next([due(2, read), due(5, read), due(7, reading(4, 1, 0))]), [2, 5, 7])
        self.assertEqual(may_be_next([due(2, write), due(5, write), due(7, writing(2, [1], 0))]), [2, 7])

    def test_told_numbers(self):
        dues = [due(1, reading(0, 1, 0)), due(4, reading(1, 1, 0, behind=[1])), due(6, reading(2, 1, 0, behind=[4])),
                due(8, reading(3, 1, 0))]
        self.assertEqual(may_be_next(dues), [1, 8])
        # 6 was told to stay behind 4 alone: without 4 nothing follows from 1.
        self.assertEqual(may_be_next([dues[0], dues[2], dues[3]]), [1, 6, 8])

    def test_told_numbers_that_are_not_among_them(self):
        dues = [due(5, reading(0, 1, 0, behind=[0, 3])), due(6, reading(1, 1, 0, behind=[2, 5]))]
        self.assertEqual(may_be_next(dues), [5])
        self.assertEqual(may_be_next(dues[1:]), [6])

    def test_when_they_come_plays_no_part(self):
        self.assertEqual(may_be_next([due(0, reading(0, 1, 900)), due(1, reading(1, 1, 5))]), [0, 1])

    def test_a_told_number_that_is_greater(self):
        # Of two the one with the greater number keeps behind the other one, never the other way.
        self.assertEqual(may_be_next([due(2, reading(0, 1, 0, behind=[5])), due(5, reading(1, 1, 0))]), [2, 5])


class TestBound(unittest.TestCase):
    def test_of_no_dues(self):
        self.assertEqual((bound_of(PLATE, 1, 0, []), bound_of(PLATE, 2, 10 ** 15, [])), (0, 10 ** 15))

    def test_of_one(self):
        # From ring 0 at beat 0 the cell at ring 1, place 1 begins at 5 and ends at 9.
        self.assertEqual(bound_of(PLATE, 0, 0, [due(0, reading(5, 1, 0))]), 9)
        self.assertEqual(bound_of(PLATE, 1, 6, [due(0, reading(5, 1, 0))]), 17)
        self.assertEqual(bound_of(PLATE, 0, 0, [due(0, reading(0, 4, 70))]), 8)

    def test_of_several(self):
        dues = [due(0, reading(0, 1, 0)), due(1, reading(1, 1, 0)), due(2, reading(5, 1, 0))]
        # The cells take 2, 2 and 4 beats; gone over first they end at 2, 4 and 9.
        self.assertEqual(bound_of(PLATE, 0, 0, dues), 9)
        dues.append(due(3, reading(4, 2, 0)))
        # The cells take 16 beats; the last one ends at 17.
        self.assertEqual(bound_of(PLATE, 0, 0, dues), 17)
        dues.append(due(4, reading(2, 2, 0)))
        self.assertEqual(bound_of(PLATE, 0, 0, dues), 20)
        self.assertEqual(bound_of(PLATE, 0, 80, dues), 100)

    def test_against_its_words_and_no_order_ends_earlier(self):
        rng = random.Random(32)
        for plate in MADE:
            for each in range(12):
                dues = few_dues(rng, plate, rng.randrange(5))
                ring, beat = rng.randrange(plate.rings()), rng.randrange(3 * plate.lap_beats())
                told = bound_of(plate, ring, beat, dues)
                passing = beat
                for one in dues:
                    for other, place in one.cells:
                        passing = passing + plate.beats_of(other)
                self.assertEqual(told, max([passing] + [goes(plate, ring, beat, [one])[0][1] for one in dues]))
                for order in all_orders(dues):
                    self.assertLessEqual(told, goes(plate, ring, beat, order)[-1][1] if order else beat)


class TestLeastWay(unittest.TestCase):
    def test_of_none(self):
        self.assertEqual(least_way(PLATE, 1, 7, []), ((), 7, [((), 7)]))

    def test_of_one(self):
        order, end, leaves = least_way(PLATE, 0, 0, [due(3, reading(5, 1, 0))])
        self.assertEqual((order, end), ((3,), 9))
        self.assertIn(leaves, ([((), 9)], [((3,), 9)]))

    def test_of_two(self):
        dues = [due(3, reading(1, 1, 0)), due(4, reading(0, 1, 0))]
        self.assertEqual(least_way(PLATE, 0, 0, dues)[:2], ((4, 3), 4))
        # A clash holds them in the order of their numbers.
        dues = [due(3, reading(1, 1, 0)), due(4, writing(0, [1, 1], 0))]
        self.assertEqual(least_way(PLATE, 0, 0, dues)[:2], ((3, 4), 12))

    def test_against_all_orders(self):
        rng = random.Random(33)
        for plate in MADE:
            for count in (0, 1, 2, 3, 4, 5):
                for each in range(4):
                    self.held_against_all(rng, plate, few_dues(rng, plate, count))

    def test_seven(self):
        rng = random.Random(337)
        for plate in MADE[:3]:
            self.held_against_all(rng, plate, few_dues(rng, plate, 7))
            self.held_against_all(rng, plate, [Due(plate, number, reading(rng.randrange(plate.total()), 1, 0))
                                               for number in range(7)])

    def held_against_all(self, rng, plate, dues):
        ring, beat = rng.randrange(plate.rings()), rng.choice([0, rng.randrange(3 * plate.lap_beats()), 10 ** 15])
        order, end, leaves = least_way(plate, ring, beat, dues)
        orders = all_orders(dues)
        ends = {numbers(other): goes(plate, ring, beat, other)[-1][1] if dues else beat for other in orders}
        self.assertEqual((ends[order], end), (min(ends.values()), min(ends.values())))
        self.assertTrue(cut(orders, leaves))
        by_number = {one.number: one for one in dues}
        for begun, bound in leaves:
            stops = goes(plate, ring, beat, [by_number[number] for number in begun])
            here, free = stops[-1] if stops else (ring, beat)
            left = [one for one in dues if one.number not in begun]
            self.assertEqual(bound, bound_of(plate, here, free, left))
            self.assertGreaterEqual(bound, end)

    def test_eight_are_refused(self):
        dues = [due(number, reading(number, 1, 0)) for number in range(8)]
        with self.assertRaises(TooMany) as caught:
            least_way(PLATE, 0, 0, dues)
        self.assertIs(caught.exception.__class__, TooMany)
        ends = [goes(PLATE, 0, 0, order)[-1][1] for order in all_orders(dues[:7])]
        self.assertEqual(least_way(PLATE, 0, 0, dues[:7])[1], min(ends))

    def test_what_is_handed_in_stays(self):
        dues = [due(3, reading(1, 1, 0)), due(4, writing(0, [1], 0, behind=[1])), due(6, reading(7, 1, 0, behind=[3]))]
        same, ahead = list(dues), tells(PLATE)
        seen = [(one.number, fields(one.ask), list(one.cells)) for one in dues]
        told = least_way(PLATE, 0, 0, dues)
        told[2].clear()
        may_be_next(dues).clear()
        bound_of(PLATE, 0, 0, dues)
        self.assertTrue(len(dues) == 3 and all(one is other for one, other in zip(dues, same)))
        self.assertEqual([(one.number, fields(one.ask), one.cells) for one in dues], seen)
        self.assertEqual(tells(PLATE), ahead)
        self.assertTrue(least_way(PLATE, 0, 0, dues)[2])


class TestHowFar(unittest.TestCase):
    def test_no_asks(self):
        for make in RULES:
            self.assertEqual(how_far(PLATE, [], make()), (0, 0))
            self.assertEqual(how_far(PLATE, [], make(), 2), (0, 0))

    def test_by_hand(self):
        row = [reading(1, 1, 0), reading(0, 1, 0)]
        self.assertEqual(how_far(PLATE, row, First()), (10, 4))
        self.assertEqual(how_far(PLATE, row, Nearest(), 0), (10, 4))
        # From ring 1 the arm is at ring 0 at beat 3: cell 0 begins at 8, cell 1 at 10.
        self.assertEqual(how_far(PLATE, row, First(), 1), (18, 12))
        self.assertEqual(how_far(plate=PLATE, asks=row, rule=First(), ring=1), (18, 12))

    def test_never_below_the_least(self):
        rng = random.Random(36)
        for plate in MADE:
            for make in RULES:
                for each in range(4):
                    row = []
                    for number in range(rng.randrange(6)):
                        first = rng.randrange(plate.total())
                        behind = [rng.randrange(number)] if number and not rng.randrange(4) else None
                        row.append(rng.choice([reading(first, 1, 0, behind=behind),
                                               writing(first, [5], 0, behind=behind)]))
                    ring = rng.randrange(plate.rings())
                    far, least = how_far(plate, row, make(), ring)
                    self.assertLessEqual(least, far)
                    self.assertEqual(far, play(plate, row, make(), ring).end)
                    dues = [Due(plate, number, ask) for number, ask in enumerate(row)]
                    ends = [goes(plate, ring, 0, order)[-1][1] for order in all_orders(dues) if order]
                    self.assertEqual(least, min(ends, default=0))

    def test_seven_and_eight(self):
        row = [reading(number, 1, 0) for number in range(8)]
        far, least = how_far(PLATE, row[:7], First())
        self.assertLessEqual(least, far)
        with self.assertRaises(TooMany) as caught:
            how_far(PLATE, row, First())
        self.assertIs(caught.exception.__class__, TooMany)

    def test_refused_as_orders_does_first(self):
        eight = [reading(number, 1, 0) for number in range(8)]
        with self.assertRaises(NoCell) as caught:
            how_far(PLATE, eight + [reading(7, 2, 0)], First())
        self.assertEqual((caught.exception.cell, caught.exception.ask), (8, 8))
        with self.assertRaises(NoOrder) as caught:
            how_far(PLATE, eight + [reading(7, 1, 0, behind=[8])], First())
        self.assertEqual((caught.exception.ask, caught.exception.other), (8, 8))
        with self.assertRaises(NoCell):
            how_far(PLATE, [reading(8, 1, 0)], First())

    def test_too_many_ahead_of_the_rule(self):
        row = [reading(0, 1, 0, 5)]
        with self.assertRaises(NoRule):
            how_far(PLATE, row, Shares([(0, 1)]))
        with self.assertRaises(TooMany):
            how_far(PLATE, row * 8, Shares([(0, 1)]))

    def test_what_is_handed_in_stays(self):
        row = [reading(1, 1, 0), writing(0, [4, 5], 0), reading(0, 1, 0)]
        same, seen = list(row), [fields(ask) for ask in row]
        how_far(PLATE, row, First())
        self.assertTrue(len(row) == 3 and all(ask is other for ask, other in zip(row, same)))
        self.assertEqual([fields(ask) for ask in row], seen)


if __name__ == "__main__":
    unittest.main()
