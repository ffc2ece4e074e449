import random
import unittest

from armswing.errors import NoRule
from armswing.plates import Plate
from armswing.rules import Rule
from armswing.shares import Shares
from rows import of_askers
from samples import SMALL

PLATE = Plate(*SMALL)


def run(rule, askers, most=100):
    """The askers picked, one behind the other, where all these wait from the first pick on."""
    left, picks = dict(enumerate(askers)), []
    while left and len(picks) < most:
        number = rule.pick(PLATE, 0, 0, of_askers(PLATE, left))
        picks.append(left.pop(number))
    return picks


class TestTurns(unittest.TestCase):
    def test_round_and_round(self):
        self.assertEqual(run(Shares([(5, 1), (2, 1), (9, 1)]), [9, 9, 5, 2, 2, 5]), [5, 2, 9, 5, 2, 9])
        self.assertEqual(run(Shares([(5, 2), (2, 1)]), [2, 2, 2, 5, 5, 5, 5]), [5, 5, 2, 5, 5, 2, 2])
        self.assertEqual(run(Shares([(0, 4), (20, 3)]), [0] * 6 + [20] * 5), [0] * 4 + [20] * 3 + [0] * 2 + [20] * 2)

    def test_the_least_number_of_the_asker(self):
        rule = Shares([(1, 1), (2, 1)])
        self.assertEqual(rule.pick(PLATE, 0, 0, of_askers(PLATE, {3: 2, 5: 1, 8: 1, 9: 2})), 5)
        self.assertEqual(rule.pick(PLATE, 0, 0, of_askers(PLATE, {3: 2, 8: 1, 9: 2})), 3)
        self.assertEqual(rule.pick(PLATE, 0, 0, of_askers(PLATE, {0: 2, 8: 1, 9: 2})), 8)

    def test_an_asker_without_dues_is_passed_by(self):
        self.assertEqual(run(Shares([(1, 2), (2, 2), (3, 1)]), [3, 3, 1, 1, 1]), [1, 1, 3, 1, 3])
        # The first one has none: the turn goes on from it.
        self.assertEqual(run(Shares([(1, 2), (2, 2), (3, 1)]), [3, 2, 2, 2, 3]), [2, 2, 3, 2, 3])

    def test_an_asker_alone_goes_on_by_itself(self):
        rule = Shares([(1, 2), (2, 1)])
        self.assertEqual(run(rule, [1, 1, 1]), [1, 1, 1])
        # Its third ask was the first one of a turn of its own once more: one is left in it.
        self.assertEqual(run(rule, [2, 2, 1, 1, 1]), [1, 2, 1, 1, 2])
        self.assertEqual(run(Shares([(7, 3)]), [7] * 8), [7] * 8)

    def test_a_turn_that_is_not_used_up_goes_on(self):
        rule = Shares([(1, 3), (2, 2)])
        self.assertEqual(rule.pick(PLATE, 0, 0, of_askers(PLATE, {0: 1, 1: 2})), 0)
        self.assertEqual(rule.pick(PLATE, 0, 0, of_askers(PLATE, {1: 2, 2: 1})), 2)
        self.assertEqual(rule.pick(PLATE, 0, 0, of_askers(PLATE, {1: 2, 3: 1, 4: 1})), 3)
        self.assertEqual(rule.pick(PLATE, 0, 0, of_askers(PLATE, {1: 2, 4: 1})), 1)

    def test_a_turn_left_ahead_of_time_begins_anew_when_it_comes_round(self):
        rule = Shares([(1, 2), (2, 1)])
        self.assertEqual(rule.pick(PLATE, 0, 0, of_askers(PLATE, {0: 1})), 0)
        # 1 has one left in its turn but no ask: the turn goes on, and comes back with two.
        self.assertEqual(rule.pick(PLATE, 0, 0, of_askers(PLATE, {1: 2})), 1)
        self.assertEqual(run(rule, [2, 1, 1, 1]), [1, 1, 2, 1])


class TestRefusals(unittest.TestCase):
    def refused(self, shares):
        with self.assertRaises(NoRule) as caught:
            Shares(shares)
        self.assertIs(caught.exception.__class__, NoRule)

    def test_when_made(self):
        self.refused([])
        self.refused([(0, 1), (1, 1), (2, 1), (3, 1), (4, 1)])
        for asker in (-1, 21):
            self.refused([(asker, 1)])
            self.refused([(3, 1), (asker, 1)])
        self.refused([(3, 1), (3, 1)])
        self.refused([(3, 1), (4, 2), (3, 2)])
        for share in (-1, 0, 5):
            self.refused([(3, share)])
            self.refused([(3, 1), (4, share)])

    def test_the_edges_are_taken(self):
        self.assertEqual(run(Shares([(0, 1), (20, 4)]), [20, 20, 20, 20, 20, 0]), [0, 20, 20, 20, 20, 20])
        self.assertEqual(run(Shares([(0, 1), (1, 1), (2, 1), (3, 1)]), [3, 2, 1, 0]), [0, 1, 2, 3])
        self.assertEqual(run(Shares([(0, 1)]), [0]), [0])

    def test_when_picking(self):
        rule = Shares([(1, 2), (2, 1)])
        self.assertEqual(rule.pick(PLATE, 0, 0, of_askers(PLATE, {0: 1, 1: 2})), 0)
        for numbers in ({2: 3}, {1: 2, 2: 1, 3: 0}, {1: 0, 2: 2}, {1: 2, 2: 20, 3: 1}):
            with self.assertRaises(NoRule) as caught:
                rule.pick(PLATE, 0, 0, of_askers(PLATE, numbers))
            self.assertIs(caught.exception.__class__, NoRule)
        # One more of asker 1 in this turn, then asker 2: nothing of the turn has changed.
        self.assertEqual(run(rule, [2, 2, 1, 1, 1]), [1, 2, 1, 1, 2])

    def test_nothing_changes_where_the_turn_would_have_gone_on(self):
        rule = Shares([(1, 1), (2, 1), (3, 1)])
        self.assertEqual(rule.pick(PLATE, 0, 0, of_askers(PLATE, {0: 1})), 0)
        with self.assertRaises(NoRule):
            rule.pick(PLATE, 0, 0, of_askers(PLATE, {1: 2, 2: 4}))
        self.assertEqual(run(rule, [3, 2, 1]), [2, 3, 1])


def by_hand(shares, kept, dues):
    """Point 21 step by step: kept has whose turn it is and how many were taken in it."""
    asker, share = shares[kept["turn"]]
    mine = [number for number, other in dues.items() if other == asker]
    if kept["taken"] < share and mine:
        kept["taken"] = kept["taken"] + 1
        return min(mine)
    for step in range(len(shares)):
        kept["turn"] = (kept["turn"] + 1) % len(shares)
        mine = [number for number, other in dues.items() if other == shares[kept["turn"]][0]]
        if mine:
            kept["taken"] = 1
            return min(mine)


class TestAgainstItsWords(unittest.TestCase):
    def test_many_picks(self):
        rng = random.Random(21)
        for each in range(60):
            askers = rng.sample(range(21), rng.randrange(1, 5))
            shares = [(asker, rng.randrange(1, 5)) for asker in askers]
            rule, kept, left = Shares(shares), {"turn": 0, "taken": 0}, {}
            for fresh in range(100):
                left[fresh] = rng.choice(askers)
                while left and rng.randrange(2):
                    told = by_hand(shares, kept, left)
                    self.assertEqual(rule.pick(PLATE, 0, 0, of_askers(PLATE, left)), told)
                    left.pop(told)


class TestItsOwn(unittest.TestCase):
    def test_lists_of_others(self):
        shares = [(1, 2), (2, 1)]
        rule = Shares(shares)
        self.assertEqual(shares, [(1, 2), (2, 1)])
        shares[0] = (7, 4)
        shares.append((3, 1))
        self.assertEqual(run(rule, [2, 2, 1, 1, 1]), [1, 1, 2, 1, 2])
        with self.assertRaises(NoRule):
            rule.pick(PLATE, 0, 0, of_askers(PLATE, {0: 3}))
        shares.clear()
        rule.anew()
        self.assertEqual(run(rule, [2, 2, 1, 1, 1]), [1, 1, 2, 1, 2])

    def test_anew(self):
        for picks in range(6):
            rule = Shares([(1, 2), (2, 1), (3, 2)])
            run(rule, [1, 1, 1, 2, 2, 3, 3, 3], picks)
            self.assertIsNone(rule.anew())
            self.assertEqual(run(rule, [3, 3, 2, 1, 1, 1]), [1, 1, 2, 3, 3, 1])

    def test_dues_stay(self):
        dues = of_askers(PLATE, {3: 2, 5: 1, 8: 1})
        same = list(dues)
        Shares([(1, 1), (2, 1)]).pick(PLATE, 0, 0, dues)
        self.assertTrue(len(dues) == 3 and all(due is other for due, other in zip(dues, same)))

    def test_under_which_it_stands(self):
        self.assertEqual(Shares.__bases__, (Rule,))


if __name__ == "__main__":
    unittest.main()
