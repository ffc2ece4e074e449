import unittest

from armswing.asks import reading
from armswing.errors import NoRule
from armswing.lifts import Lift, Sweep
from armswing.orders import orders
from armswing.plates import Plate
from armswing.plays import play
from armswing.rules import First, Latest, Nearest, Soonest
from armswing.settled import settled, shares_bound, shares_row
from armswing.shares import Shares
from rows import passing, waiting
from samples import PLATES, fields, level_swing, tells

BOUND = {"first": First, "calm lift": lambda: Lift(True), "calm sweep": lambda: Sweep(True)}
EVER = {"nearest": Nearest, "soonest": Soonest, "latest": Latest, "lift": Lift, "sweep": Sweep}

TOLD = PLATES + [
    ([(1, 1), (1, 60)], 60, 59, [0, 1]),
    ([(1, 16), (1, 17)], 16 * 17, 5, [0, 1]),
    ([(1, 17), (1, 16)], 16 * 17, 0, [0, 1]),
    ([(40, 60)] * 3, 60 * 16666666, 60 * 16666666 - 1, [0] + [10 ** 9] * 119),
    ([(40, 50)] * 3, 10 ** 9, 1, [0] + [10 ** 9] * 119),
    ([(40, 1)] * 3, 10 ** 9, 0, [0] + [10 ** 9] * 119),
    ([(40, 1)] * 3, 1, 0, level_swing(120)),
]
SETTLED = [Plate(*told) for told in TOLD]


def check_reads(case, asks):
    for ask in asks:
        case.assertEqual((ask.kind, ask.behind), ("read", ()))


def later(ask, beats):
    latest = None if ask.latest is None else ask.latest + beats
    return reading(ask.first, ask.many, ask.at + beats, ask.asker, latest)


class TestBounds(unittest.TestCase):
    def test_reached_on_every_plate(self):
        for plate in SETTLED:
            for word, make in BOUND.items():
                for most in (2, 3, 17, 40):
                    kind, bound, asks = settled(plate, word, most)
                    self.assertEqual((kind, bound), ("bound", 0 if word == "first" else most - 1))
                    self.assertTrue(1 <= len(asks) <= most)
                    check_reads(self, asks)
                    self.assertEqual({ask.at for ask in asks}, {0})
                    taken = play(plate, asks, make()).taken
                    self.assertEqual(passing(asks, taken)[0], bound)
                    self.assertLessEqual(waiting(asks, taken), most)


class TestForEver(unittest.TestCase):
    def test_kept_waiting_on_every_plate(self):
        for plate in SETTLED:
            for word in EVER:
                for most in (2, 3, 40):
                    kind, lead, again, period = settled(plate, word, most)
                    self.assertEqual(kind, "ever")
                    self.assertTrue(1 <= len(lead) <= 40 and 1 <= len(again) <= 60 and period >= 1)
                    check_reads(self, lead + again)
                    whole = (100 - len(lead)) // len(again)
                    for times in sorted({0, 1, 2, whole}):
                        if times <= whole:
                            self.kept_waiting(plate, EVER[word](), most, lead, again, period, times)

    def kept_waiting(self, plate, rule, most, lead, again, period, times):
        row = list(lead)
        for turn in range(times):
            row.extend([later(ask, turn * period) for ask in again])
        self.assertLessEqual(len(row), 100)
        orders(plate, row)
        taken = play(plate, row, rule).taken
        self.assertEqual(taken[0], max(taken))
        self.assertEqual(passing(row, taken)[0], len(row) - 1)
        self.assertLessEqual(waiting(row, taken), most)

    def test_often_enough_to_tell(self):
        for plate in SETTLED:
            for word in EVER:
                kind, lead, again, period = settled(plate, word, 2)
                self.assertGreaterEqual((100 - len(lead)) // len(again), 20)


class TestWords(unittest.TestCase):
    def test_others_are_refused(self):
        for word in ("", "careful", "shares", "shares 0 1", "First", "first ", " lift", "calm", "calm first", "calm  lift",
                     "calm nearest", "lift calm"):
            with self.assertRaises(NoRule) as caught:
                settled(SETTLED[0], word, 2)
            self.assertIs(caught.exception.__class__, NoRule)

    def test_what_is_told_is_the_askers_own(self):
        plate = SETTLED[0]
        ahead = tells(plate)
        for word in list(BOUND) + list(EVER):
            told = settled(plate, word, 3)
            seen = [[fields(ask) for ask in part] for part in told if isinstance(part, list)]
            for part in told:
                if isinstance(part, list):
                    part.clear()
            again = settled(plate, word, 3)
            self.assertEqual([[fields(ask) for ask in part] for part in again if isinstance(part, list)], seen)
        self.assertEqual(tells(plate), ahead)


SHARES = [
    [(0, 1)],
    [(20, 4)],
    [(7, 3), (2, 1)],
    [(2, 1), (7, 4)],
    [(0, 1), (1, 1), (2, 1)],
    [(5, 2), (4, 3), (3, 1)],
    [(3, 1), (2, 2), (1, 3), (0, 4)],
    [(0, 4), (10, 4), (20, 4), (5, 1)],
    [(0, 4), (10, 4), (20, 4), (5, 4)],
]


class TestShares(unittest.TestCase):
    def test_the_bound(self):
        self.assertEqual(shares_bound([(0, 1)], 0, 3), 0)
        self.assertEqual(shares_bound([(7, 3), (2, 1)], 7, 0), 1)
        self.assertEqual(shares_bound([(7, 3), (2, 1)], 7, 2), 1)
        self.assertEqual(shares_bound([(7, 3), (2, 1)], 7, 3), 2)
        self.assertEqual(shares_bound([(7, 3), (2, 1)], 2, 0), 3)
        self.assertEqual(shares_bound([(7, 3), (2, 1)], 2, 3), 12)
        self.assertEqual(shares_bound([(0, 4), (10, 4), (20, 4), (5, 1)], 5, 3), 48)

    def test_the_row_reaches_it(self):
        for plate in SETTLED:
            for shares in SHARES:
                for asker, share in shares:
                    for ahead in range(4):
                        self.reaches(plate, shares, asker, ahead)

    def reaches(self, plate, shares, asker, ahead):
        asks, number = shares_row(plate, shares, asker, ahead)
        self.assertLessEqual(len(asks), 100)
        check_reads(self, asks)
        self.assertEqual(asks[number].asker, asker)
        taken = play(plate, asks, Shares(shares)).taken
        coming = asks[number].at
        own = [other for other in range(number) if asks[other].asker == asker and taken[other] >= coming]
        self.assertEqual(len(own), ahead)
        others = [other for other, ask in enumerate(asks) if ask.asker != asker and coming <= taken[other] < taken[number]]
        self.assertEqual(len(others), shares_bound(shares, asker, ahead))

    def test_refusals(self):
        for shares, asker in (([], 0), ([(0, 1)] * 2, 0), ([(0, 0)], 0), ([(0, 5)], 0), ([(-1, 1)], -1), ([(21, 1)], 21),
                              ([(number, 1) for number in range(5)], 0), ([(0, 1), (1, 1)], 2), ([(3, 2)], 0),
                              ([(3, 2)], 2)):
            for make in (lambda: shares_bound(shares, asker, 0), lambda: shares_row(SETTLED[0], shares, asker, 0)):
                with self.assertRaises(NoRule) as caught:
                    make()
                self.assertIs(caught.exception.__class__, NoRule)

    def test_lists_of_others(self):
        shares, plate = [(7, 3), (2, 1)], SETTLED[0]
        ahead = tells(plate)
        asks, number = shares_row(plate, shares, 2, 1)
        shares_bound(shares, 2, 1)
        self.assertEqual((shares, tells(plate)), ([(7, 3), (2, 1)], ahead))
        seen = [fields(ask) for ask in asks]
        asks.clear()
        self.assertEqual([fields(ask) for ask in shares_row(plate, shares, 2, 1)[0]], seen)


if __name__ == "__main__":
    unittest.main()
