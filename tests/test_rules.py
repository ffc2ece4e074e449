import random
import unittest

from armswing.asks import reading, writing
from armswing.mended import Mended
from armswing.orders import Due
from armswing.plates import Plate
from armswing.rules import First, Latest, Nearest, Rule, Soonest
from rows import on_rings
from samples import ONE_ZONE, SMALL, fields, tells

PLATE = Plate(*ONE_ZONE)
# Five rings of two cells; a cell passes in 5 beats.
WIDE = Plate([(5, 2)], 10, 0, [0, 1, 2, 3, 4])


def by_latest(latests):
    return [Due(PLATE, number, reading(0, 1, 0, latest=latest)) for number, latest in latests.items()]


class TestFirst(unittest.TestCase):
    def test_the_least_number(self):
        for rule in (Rule(), First()):
            for numbers in ({0: 0}, {7: 4, 8: 0}, {3: 2, 5: 1, 99: 0}, {99: 3}):
                self.assertEqual(rule.pick(WIDE, 0, 5, on_rings(WIDE, numbers)), min(numbers))

    def test_numbers_that_do_not_follow(self):
        rule = First()
        self.assertEqual(rule.pick(WIDE, 0, 0, on_rings(WIDE, {5: 0, 6: 0})), 5)
        self.assertEqual(rule.pick(WIDE, 0, 0, on_rings(WIDE, {2: 4, 6: 0})), 2)


class TestNearest(unittest.TestCase):
    def pick(self, ring, numbers):
        return Nearest().pick(WIDE, ring, 3, on_rings(WIDE, numbers))

    def test_fewest_rings_away(self):
        self.assertEqual(self.pick(0, {0: 4, 1: 2, 2: 3}), 1)
        self.assertEqual(self.pick(4, {0: 0, 1: 2, 2: 3}), 2)
        self.assertEqual(self.pick(3, {0: 0, 1: 4, 2: 1}), 1)

    def test_on_the_arms_ring(self):
        self.assertEqual(self.pick(2, {0: 1, 1: 3, 2: 2}), 2)

    def test_where_two_are_as_near_the_least_number(self):
        self.assertEqual(self.pick(2, {4: 3, 7: 1}), 4)
        self.assertEqual(self.pick(2, {4: 1, 7: 3}), 4)
        self.assertEqual(self.pick(2, {4: 0, 7: 2, 8: 2}), 7)

    def test_the_ring_of_the_first_cell(self):
        # Number 0 begins on ring 0 and goes on to ring 1, number 1 lies on ring 2 alone.
        dues = [Due(WIDE, 0, reading(1, 2, 0)), Due(WIDE, 1, reading(4, 1, 0))]
        self.assertEqual(Nearest().pick(WIDE, 1, 0, dues), 0)
        self.assertEqual(Nearest().pick(WIDE, 2, 0, dues), 1)
        dues = [Due(WIDE, 0, reading(1, 2, 0)), Due(WIDE, 1, reading(2, 1, 0))]
        self.assertEqual(Nearest().pick(WIDE, 1, 0, dues), 1)

    def test_on_a_mended_plate_the_ring_of_the_cell_laid_to(self):
        # The one kept cell of ring 0 is bad, too, so that number 0 lies on ring 1.
        mended = Mended([(3, 2)], 10, 0, [0, 1, 2], 1, [(0, 0), (0, 1)])
        self.assertEqual(mended.cell_at(0), (1, 1))
        dues = [Due(mended, 3, reading(0, 1, 0)), Due(mended, 4, reading(1, 1, 0))]
        self.assertEqual(Nearest().pick(mended, 0, 0, dues), 3)
        dues = [Due(mended, 3, reading(2, 1, 0)), Due(mended, 4, reading(0, 1, 0))]
        self.assertEqual(Nearest().pick(mended, 1, 0, dues), 4)


class TestSoonest(unittest.TestCase):
    def test_whose_first_cell_begins_earliest(self):
        plate = Plate(*SMALL)
        # From ring 0 at beat 1: (0, 0) begins at 8, (0, 1) at 2, (1, 1) at 5, (2, 1) at 6.
        dues = [Due(plate, number, reading(number, 1, 0)) for number in (0, 1, 5, 7)]
        self.assertEqual(Soonest().pick(plate, 0, 1, dues), 1)
        self.assertEqual(Soonest().pick(plate, 0, 1, dues[::3]), 7)
        # From beat 3: (0, 1) begins at 10, (1, 1) at 13, (2, 1) at 14, (0, 0) at 8.
        self.assertEqual(Soonest().pick(plate, 0, 3, dues), 0)
        self.assertEqual(Soonest().pick(plate, 0, 3, dues[1:]), 1)

    def test_nearer_is_not_sooner(self):
        # At beat 6 the cell at ring 0 has just gone by, that at ring 2 comes at 10.
        plate = Plate([(3, 2)], 20, 5, [0, 1, 2])
        dues = [Due(plate, 0, reading(0, 1, 0)), Due(plate, 1, reading(4, 1, 0))]
        self.assertEqual(Soonest().pick(plate, 0, 6, dues), 1)
        self.assertEqual(Soonest().pick(plate, 0, 9, dues), 0)
        self.assertEqual(Soonest().pick(plate, 0, 8, dues), 1)

    def test_what_counts_is_when_it_begins_not_when_it_ends(self):
        plate = Plate(*SMALL)
        # (0, 0) to (0, 3) begins at 0 and ends at 8; (0, 1) begins at 2 and ends at 4.
        dues = [Due(plate, 3, reading(1, 1, 0)), Due(plate, 4, reading(0, 4, 0))]
        self.assertEqual(Soonest().pick(plate, 0, 0, dues), 4)

    def test_where_two_are_as_soon_the_least_number(self):
        dues = [Due(WIDE, 3, reading(6, 1, 0)), Due(WIDE, 5, reading(2, 1, 0)), Due(WIDE, 6, reading(8, 1, 0))]
        # All begin at 10, the arm is there by then.
        self.assertEqual(Soonest().pick(WIDE, 0, 1, dues), 3)
        self.assertEqual(Soonest().pick(WIDE, 0, 1, dues[1:]), 5)
        # From beat 7 the arm is at ring 3 at beat 10, at ring 4 too late.
        self.assertEqual(Soonest().pick(WIDE, 0, 7, dues[::2]), 3)
        self.assertEqual(Soonest().pick(WIDE, 0, 7, [dues[2], Due(WIDE, 9, reading(2, 1, 0))]), 9)


class TestLatest(unittest.TestCase):
    def test_the_least_latest_beat(self):
        self.assertEqual(Latest().pick(PLATE, 0, 5, by_latest({0: 40, 1: 30, 2: 35})), 1)
        self.assertEqual(Latest().pick(PLATE, 0, 5, by_latest({0: 40, 1: 30, 2: 0})), 2)

    def test_none_comes_behind_all_others(self):
        self.assertEqual(Latest().pick(PLATE, 0, 5, by_latest({0: None, 1: 10 ** 13, 2: None})), 1)
        self.assertEqual(Latest().pick(PLATE, 0, 5, by_latest({3: None, 4: None})), 3)
        self.assertEqual(Latest().pick(PLATE, 0, 5, by_latest({3: None, 4: None, 5: 0})), 5)

    def test_where_two_are_as_good_the_least_number(self):
        self.assertEqual(Latest().pick(PLATE, 0, 5, by_latest({2: 9, 4: 8, 7: 8, 9: None})), 4)


class TestClasses(unittest.TestCase):
    def test_each_under_rule_and_no_other(self):
        classes = [First, Nearest, Soonest, Latest]
        for one in classes:
            self.assertTrue(issubclass(one, Rule))
            self.assertFalse(issubclass(Rule, one))
            for other in classes:
                self.assertEqual(issubclass(one, other), one is other)

    def test_anew(self):
        for make in (Rule, First, Nearest, Soonest, Latest):
            rule, rng = make(), random.Random(22)
            for each in range(20):
                dues = some_dues(rng)
                rule.pick(PLATE, rng.randrange(3), rng.randrange(50), dues)
            self.assertIsNone(rule.anew())
            for each in range(20):
                dues, ring, beat = some_dues(rng), rng.randrange(3), rng.randrange(50)
                self.assertEqual(rule.pick(PLATE, ring, beat, dues), make().pick(PLATE, ring, beat, dues))


def some_dues(rng):
    numbers = sorted(rng.sample(range(100), rng.randrange(1, 8)))
    return [Due(PLATE, number, reading(rng.randrange(16), rng.randrange(1, 3), 0, rng.randrange(3),
                                       rng.choice([None, rng.randrange(9)]))) for number in numbers]


class TestAgainstTheirWords(unittest.TestCase):
    def test_many_dues(self):
        rng = random.Random(18)
        for each in range(300):
            dues, ring, beat = some_dues(rng), rng.randrange(3), rng.randrange(100)
            far, soon, latest = {}, {}, {}
            for due in dues:
                other, place = due.cells[0]
                far.setdefault(abs(other - ring), due.number)
                begun = beat + PLATE.swing_of(ring, other)
                while begun % 12 != PLATE.begins(other, place):
                    begun = begun + 1
                soon.setdefault(begun, due.number)
                latest.setdefault(10 ** 20 if due.ask.latest is None else due.ask.latest, due.number)
            for rule, found in ((Nearest(), far), (Soonest(), soon), (Latest(), latest)):
                self.assertEqual(rule.pick(PLATE, ring, beat, dues), found[min(found)])

    def test_what_is_handed_in_stays(self):
        dues = [Due(PLATE, 4, reading(3, 2, 0)), Due(PLATE, 9, writing(0, [1], 0, latest=4))]
        same, ahead = list(dues), tells(PLATE)
        seen = [(due.number, fields(due.ask), list(due.cells)) for due in dues]
        for rule in (Rule(), First(), Nearest(), Soonest(), Latest()):
            rule.pick(PLATE, 1, 3, dues)
        self.assertTrue(len(dues) == 2 and all(due is other for due, other in zip(dues, same)))
        self.assertEqual([(due.number, fields(due.ask), due.cells) for due in dues], seen)
        self.assertEqual(tells(PLATE), ahead)


if __name__ == "__main__":
    unittest.main()
