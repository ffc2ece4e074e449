import random
import unittest

from armswing.asks import reading, writing
from armswing.careful import Careful, in_time
from armswing.errors import TooMany
from armswing.orders import Due
from armswing.plates import Plate
from armswing.plays import play
from armswing.rules import Latest, Rule
from rows import MADE, dues_of
from samples import SMALL, fields, tells
from trees import all_orders, cut, few_dues, goes, numbers

PLATE = Plate(*SMALL)


def is_in_time(plate, ring, beat, order):
    for due, (there, free) in zip(order, goes(plate, ring, beat, order)):
        if due.ask.latest is not None and free > due.ask.latest:
            return False
    return True


def orders_in_time(plate, ring, beat, dues):
    return [numbers(order) for order in all_orders(dues) if is_in_time(plate, ring, beat, order)]


def read_due(number, first, latest, **more):
    return Due(PLATE, number, reading(first, 1, 0, latest=latest, **more))


class TestInTime(unittest.TestCase):
    def test_none_and_one(self):
        self.assertEqual(in_time(PLATE, 0, 5, []), ("order", ()))
        # From ring 0 at beat 0 the cell 5 ends at beat 9.
        self.assertEqual(in_time(PLATE, 0, 0, [read_due(4, 5, None)]), ("order", (4,)))
        self.assertEqual(in_time(PLATE, 0, 0, [read_due(4, 5, 9)]), ("order", (4,)))
        self.assertEqual(in_time(PLATE, 0, 0, [read_due(4, 5, 8)]), ("cannot", (4,), [((), 4)]))

    def test_two(self):
        # Cell 0 ends at 2 and cell 1 at 4 this way; the other way they end at 10 and 4.
        self.assertEqual(in_time(PLATE, 0, 0, [read_due(3, 1, 4), read_due(7, 0, 9)]), ("order", (7, 3)))
        self.assertEqual(in_time(PLATE, 0, 0, [read_due(3, 1, 4), read_due(7, 0, None)])[0], "order")
        # A read and a write of cell 0: in the order of their numbers they end at 2 and 10.
        dues = [read_due(3, 0, None), Due(PLATE, 7, writing(0, [1], 0, latest=9))]
        self.assertEqual(in_time(PLATE, 0, 0, dues)[:2], ("cannot", (3, 7)))
        self.assertEqual(in_time(PLATE, 0, 0, dues[1:]), ("order", (7,)))

    def test_told_numbers_hold(self):
        dues = [read_due(3, 1, None), read_due(7, 0, 3, behind=[3])]
        self.assertEqual(in_time(PLATE, 0, 0, dues)[:2], ("cannot", (3, 7)))
        dues = [read_due(3, 1, None), read_due(7, 0, 3, behind=[2])]
        self.assertEqual(in_time(PLATE, 0, 0, dues), ("order", (7, 3)))

    def test_some_of_them_alone(self):
        # 2 is late by itself, whatever the others do.
        dues = [read_due(1, 0, 2), read_due(2, 5, 8), read_due(3, 1, None), read_due(9, 6, 1000)]
        self.assertEqual(in_time(PLATE, 0, 0, dues), ("cannot", (2,), [((), 2)]))

    def test_against_all_orders(self):
        rng = random.Random(34)
        kinds = {"order": 0, "cannot": 0}
        for plate in MADE:
            for count in (0, 1, 2, 3, 4, 5):
                for each in range(10):
                    slack = plate.lap_beats() * rng.randrange(1, 3 + 4 * count)
                    dues = few_dues(rng, plate, count, slack)
                    kind = self.held_against_all(rng.randrange(plate.rings()), plate, rng.choice([0, 3]), dues)
                    kinds[kind] = kinds[kind] + 1
        self.assertTrue(min(kinds.values()) > 50, kinds)

    def test_seven(self):
        rng = random.Random(347)
        for plate in MADE[:2]:
            for laps in (6, 12, 24):
                self.held_against_all(0, plate, 0, few_dues(rng, plate, 7, plate.lap_beats() * laps))
        # All by one beat, the least end and one ahead of it, so that what can't be is seen late.
        for latest, kind in ((22, "cannot"), (23, "order")):
            dues = [Due(MADE[1], number, reading(first, 1, 0, latest=latest))
                    for number, first in enumerate((0, 1, 2, 7, 8, 13, 14))]
            self.assertEqual(self.held_against_all(0, MADE[1], 0, dues), kind)

    def held_against_all(self, ring, plate, beat, dues):
        good = orders_in_time(plate, ring, beat, dues)
        told = in_time(plate, ring, beat, dues)
        self.assertEqual(told[0], "order" if good else "cannot")
        if good:
            self.assertIn(told[1], good)
            self.assertEqual(len(told), 2)
        else:
            self.cannot(plate, ring, beat, dues, told)
        return told[0]

    def cannot(self, plate, ring, beat, dues, told):
        kind, some, leaves = told
        by_number = {due.number: due for due in dues}
        these = [by_number[number] for number in some]
        self.assertEqual(some, tuple(sorted(set(some))))
        self.assertEqual(orders_in_time(plate, ring, beat, these), [])
        for due in these:
            self.assertTrue(orders_in_time(plate, ring, beat, [other for other in these if other is not due]))
        self.assertTrue(cut(all_orders(these), leaves))
        for begun, late in leaves:
            self.assertIn(late, some)
            self.assertNotIn(late, begun)
            order = [by_number[number] for number in begun + (late,)]
            self.assertGreater(goes(plate, ring, beat, order)[-1][1], by_number[late].ask.latest)

    def test_eight_are_refused(self):
        dues = [read_due(number, number, None) for number in range(8)]
        with self.assertRaises(TooMany) as caught:
            in_time(PLATE, 0, 0, dues)
        self.assertIs(caught.exception.__class__, TooMany)
        self.assertEqual(in_time(PLATE, 0, 0, dues[1:])[0], "order")

    def test_what_is_handed_in_stays(self):
        dues = [read_due(3, 1, 4), read_due(7, 0, 2), read_due(8, 5, 9)]
        same, ahead = list(dues), tells(PLATE)
        seen = [(due.number, fields(due.ask), list(due.cells)) for due in dues]
        told = in_time(PLATE, 0, 0, dues)
        self.assertEqual(told[0], "cannot")
        told[2].clear()
        Careful().pick(PLATE, 0, 0, dues)
        self.assertTrue(len(dues) == 3 and all(due is other for due, other in zip(dues, same)))
        self.assertEqual([(due.number, fields(due.ask), due.cells) for due in dues], seen)
        self.assertEqual(tells(PLATE), ahead)
        self.assertTrue(in_time(PLATE, 0, 0, dues)[2])


class TestCareful(unittest.TestCase):
    def test_the_first_of_an_order_in_time(self):
        # Latest would take 3, by which 7 would be too late.
        dues = [read_due(3, 1, 4), read_due(7, 0, 9)]
        self.assertEqual((Careful().pick(PLATE, 0, 0, dues), Latest().pick(PLATE, 0, 0, dues)), (7, 3))

    def test_as_latest_where_there_is_none(self):
        dues = [read_due(3, 0, 2), read_due(7, 5, 1), read_due(8, 6, 1)]
        self.assertEqual(Careful().pick(PLATE, 0, 0, dues), 7)

    def test_as_latest_with_eight_and_more(self):
        dues = [read_due(3, 1, 4), read_due(7, 0, 9)]
        dues.extend([read_due(number, 2, None) for number in range(10, 16)])
        self.assertEqual(len(dues), 8)
        self.assertEqual(Careful().pick(PLATE, 0, 0, dues), 3)
        self.assertEqual(Careful().pick(PLATE, 0, 0, dues[:7]), 7)
        self.assertEqual(Careful().pick(PLATE, 0, 0, dues[2:]), 10)
        many = [read_due(number, 0, 50 - number) for number in range(40)]
        self.assertEqual(Careful().pick(PLATE, 0, 0, many), 39)

    def test_one_that_has_to_keep_behind_another_is_not_picked_ahead_of_it(self):
        dues = [Due(PLATE, 3, writing(1, [1], 0)), Due(PLATE, 7, reading(0, 2, 0, latest=20))]
        self.assertEqual(Careful().pick(PLATE, 0, 0, dues), 3)

    def test_against_all_orders(self):
        rng = random.Random(35)
        for plate in MADE:
            for each in range(25):
                dues = few_dues(rng, plate, rng.randrange(1, 6), plate.lap_beats() * rng.randrange(1, 15))
                ring, beat = rng.randrange(plate.rings()), rng.randrange(3 * plate.lap_beats())
                good = orders_in_time(plate, ring, beat, dues)
                told = Careful().pick(plate, ring, beat, dues)
                if good:
                    self.assertIn(told, [order[0] for order in good])
                else:
                    self.assertEqual(told, Latest().pick(plate, ring, beat, dues))

    def test_under_which_it_stands(self):
        self.assertEqual(Careful.__bases__, (Latest,))
        self.assertTrue(issubclass(Careful, Rule))

    def test_anew(self):
        rule, rng = Careful(), random.Random(352)
        for each in range(10):
            dues = few_dues(rng, PLATE, rng.randrange(1, 9), 60)
            rule.pick(PLATE, 0, 0, dues)
            self.assertIsNone(rule.anew())
            self.assertEqual(rule.pick(PLATE, 0, 0, dues), Careful().pick(PLATE, 0, 0, dues))

    def test_plays_that_can_be_in_time_are(self):
        rng, kept = random.Random(353), 0
        for plate in MADE:
            for each in range(20):
                count = rng.randrange(1, 6)
                row = [reading(rng.randrange(plate.total()), 1, 0,
                               latest=rng.choice([None, rng.randrange(2 * count * plate.lap_beats() + 5)]))
                       for number in range(count)]
                ring = rng.randrange(plate.rings())
                if orders_in_time(plate, ring, 0, dues_of(plate, row)):
                    kept = kept + 1
                    told = play(plate, row, Careful(), ring).told
                    for ask, beat in zip(row, told):
                        self.assertTrue(ask.latest is None or beat <= ask.latest)
        self.assertGreater(kept, 30)

    def test_a_play_of_seven(self):
        row = [reading(first, 1, 0, latest=latest) for first, latest in
               ((5, 30), (1, 4), (0, 2), (4, 30), (2, 100), (3, 8), (7, 40))]
        good = orders_in_time(PLATE, 0, 0, dues_of(PLATE, row))
        told = play(PLATE, row, Careful())
        taken = tuple(sorted(range(7), key=lambda number: told.taken[number]))
        self.assertTrue(good)
        self.assertIn(taken, good)


if __name__ == "__main__":
    unittest.main()
