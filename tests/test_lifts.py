import random
import unittest

from armswing.lifts import Lift, Sweep
from armswing.plates import Plate
from armswing.rules import Rule
from rows import on_rings

PLATE = Plate([(9, 2)], 10, 3, [0, 1, 2, 3, 4, 5, 6, 7, 8])


def run(rule, ring, rings):
    """The picks where the arm goes to each ring picked: all of these wait from the first pick on."""
    left, picks = dict(rings), []
    while left:
        picks.append(rule.pick(PLATE, ring, 0, on_rings(PLATE, left)))
        ring = left.pop(picks[-1])
    return picks


class TestLift(unittest.TestCase):
    def test_inward_to_begin_with(self):
        self.assertEqual(Lift().pick(PLATE, 4, 0, on_rings(PLATE, {0: 3, 1: 8})), 1)
        self.assertEqual(Lift().pick(PLATE, 4, 0, on_rings(PLATE, {0: 3, 1: 8, 2: 7})), 2)
        self.assertEqual(Lift().pick(PLATE, 0, 0, on_rings(PLATE, {0: 3, 1: 1})), 1)

    def test_its_own_ring(self):
        self.assertEqual(Lift().pick(PLATE, 4, 0, on_rings(PLATE, {0: 5, 1: 3, 2: 4})), 2)

    def test_where_two_are_as_near_the_least_number(self):
        self.assertEqual(Lift().pick(PLATE, 4, 0, on_rings(PLATE, {3: 7, 4: 6, 5: 6})), 4)
        self.assertEqual(Lift().pick(PLATE, 4, 0, on_rings(PLATE, {3: 4, 4: 4})), 3)

    def test_turning_about(self):
        self.assertEqual(Lift().pick(PLATE, 4, 0, on_rings(PLATE, {0: 1, 1: 3, 2: 3})), 1)
        self.assertEqual(run(Lift(), 4, {0: 2, 1: 6, 2: 5, 3: 3, 4: 8}), [2, 1, 4, 3, 0])

    def test_it_keeps_that_way_till_there_is_none(self):
        lift = Lift()
        self.assertEqual(lift.pick(PLATE, 4, 0, on_rings(PLATE, {0: 3})), 0)
        # It goes outward now: 1 is nearer, 2 lies that way.
        self.assertEqual(lift.pick(PLATE, 3, 0, on_rings(PLATE, {1: 4, 2: 0})), 2)
        # On its own ring, while it goes outward.
        self.assertEqual(lift.pick(PLATE, 2, 0, on_rings(PLATE, {3: 3, 4: 2})), 4)
        # None that way: it turns inward, and keeps to it.
        self.assertEqual(lift.pick(PLATE, 2, 0, on_rings(PLATE, {3: 3, 5: 4})), 3)
        self.assertEqual(lift.pick(PLATE, 3, 0, on_rings(PLATE, {5: 8, 6: 2})), 5)
        self.assertEqual(lift.pick(PLATE, 8, 0, on_rings(PLATE, {6: 2, 7: 1})), 6)
        self.assertEqual(lift.pick(PLATE, 2, 0, on_rings(PLATE, {7: 1, 8: 2, 9: 3})), 8)
        self.assertEqual(lift.pick(PLATE, 2, 0, on_rings(PLATE, {7: 1, 9: 3})), 7)

    def test_its_own_ring_does_not_turn_it(self):
        lift = Lift()
        self.assertEqual(lift.pick(PLATE, 8, 0, on_rings(PLATE, {0: 8, 1: 0})), 0)
        self.assertEqual(lift.pick(PLATE, 7, 0, on_rings(PLATE, {1: 6, 2: 8})), 2)


class TestSweep(unittest.TestCase):
    def test_inward_always(self):
        self.assertEqual(run(Sweep(), 4, {0: 2, 1: 6, 2: 5, 3: 3, 4: 8}), [2, 1, 4, 0, 3])
        sweep = Sweep()
        self.assertEqual(sweep.pick(PLATE, 4, 0, on_rings(PLATE, {0: 3})), 0)
        self.assertEqual(sweep.pick(PLATE, 3, 0, on_rings(PLATE, {1: 8, 2: 2})), 1)

    def test_its_own_ring_and_the_least_number(self):
        self.assertEqual(Sweep().pick(PLATE, 4, 0, on_rings(PLATE, {0: 5, 1: 3, 2: 4})), 2)
        self.assertEqual(Sweep().pick(PLATE, 4, 0, on_rings(PLATE, {3: 7, 4: 6, 5: 6})), 4)

    def test_where_there_is_none_the_least_ring_of_all(self):
        self.assertEqual(Sweep().pick(PLATE, 8, 0, on_rings(PLATE, {0: 7, 1: 2, 2: 5})), 1)
        self.assertEqual(Sweep().pick(PLATE, 8, 0, on_rings(PLATE, {3: 7, 4: 1, 5: 1})), 4)


class TestCalm(unittest.TestCase):
    def test_a_lift_looks_at_its_batch_alone(self):
        lift = Lift(True)
        self.assertEqual(lift.pick(PLATE, 0, 0, on_rings(PLATE, {0: 1, 1: 5})), 0)
        # 2 came later: it is nearer, but not in the batch.
        self.assertEqual(lift.pick(PLATE, 1, 0, on_rings(PLATE, {1: 5, 2: 1})), 1)
        # None of the batch is left: 2 and 3 are it now.
        self.assertEqual(lift.pick(PLATE, 5, 0, on_rings(PLATE, {2: 1, 3: 6})), 3)
        self.assertEqual(lift.pick(PLATE, 6, 0, on_rings(PLATE, {2: 1, 4: 6, 5: 5})), 2)
        # It goes outward since it took 2, behind the change of the batch too: 5 is nearer that way than 4.
        self.assertEqual(lift.pick(PLATE, 5, 0, on_rings(PLATE, {4: 6, 5: 0})), 5)

    def test_a_lifts_way_stays_where_the_batch_changes(self):
        lift = Lift(calm=True)
        self.assertEqual(lift.pick(PLATE, 4, 0, on_rings(PLATE, {0: 2})), 0)
        self.assertEqual(lift.pick(PLATE, 4, 0, on_rings(PLATE, {1: 5, 2: 1})), 2)
        lift = Lift(calm=True)
        self.assertEqual(lift.pick(PLATE, 4, 0, on_rings(PLATE, {0: 6})), 0)
        self.assertEqual(lift.pick(PLATE, 4, 0, on_rings(PLATE, {1: 8, 2: 3})), 1)

    def test_a_sweep_looks_at_its_batch_alone(self):
        sweep = Sweep(True)
        self.assertEqual(sweep.pick(PLATE, 3, 0, on_rings(PLATE, {0: 4, 1: 2, 2: 1})), 0)
        self.assertEqual(sweep.pick(PLATE, 4, 0, on_rings(PLATE, {1: 2, 2: 1, 3: 4, 4: 0})), 2)
        self.assertEqual(sweep.pick(PLATE, 1, 0, on_rings(PLATE, {1: 2, 3: 1, 4: 0})), 1)
        self.assertEqual(sweep.pick(PLATE, 2, 0, on_rings(PLATE, {3: 1, 4: 0, 5: 2})), 5)
        self.assertEqual(sweep.pick(PLATE, 2, 0, on_rings(PLATE, {3: 1, 4: 0, 6: 2})), 4)

    def test_one_that_is_not_calm_keeps_no_batch(self):
        for rule in (Lift(), Lift(False), Sweep(), Sweep(calm=False)):
            self.assertEqual(rule.pick(PLATE, 0, 0, on_rings(PLATE, {0: 1, 1: 5})), 0)
            self.assertEqual(rule.pick(PLATE, 1, 0, on_rings(PLATE, {1: 5, 2: 1})), 2)

    def test_the_batch_is_known_by_numbers(self):
        lift = Lift(True)
        dues = on_rings(PLATE, {0: 1, 1: 5, 2: 3})
        self.assertEqual(lift.pick(PLATE, 0, 0, dues), 0)
        # The list that was handed in is the asker's own: changing it changes nothing of the batch.
        dues.clear()
        self.assertEqual(lift.pick(PLATE, 1, 0, on_rings(PLATE, {1: 5, 2: 3, 3: 1})), 2)


def looked_at(kept, dues):
    """The batch by point 20, as a dict of numbers that kept has under "batch"."""
    if not [number for number in dues if number in kept["batch"]]:
        kept["batch"] = dict(dues)
    return {number: ring for number, ring in dues.items() if number in kept["batch"]}


def lift_by_hand(kept, ring, dues):
    for turn in range(2):
        ahead = [(abs(other - ring), number) for number, other in dues.items() if (other - ring) * kept["way"] >= 0]
        if ahead:
            return min(ahead)[1]
        kept["way"] = -kept["way"]


def sweep_by_hand(kept, ring, dues):
    ahead = [(other, number) for number, other in dues.items() if other >= ring]
    return min(ahead or [(other, number) for number, other in dues.items()])[1]


class TestAgainstTheirWords(unittest.TestCase):
    def go(self, rng, rule, by_hand, calm):
        left, fresh, ring, kept, picks = {}, 0, rng.randrange(9), {"way": 1, "batch": {}}, []
        while fresh < 100:
            for each in range(rng.randrange(3) if left else 1):
                left[fresh] = rng.randrange(9)
                fresh = fresh + 1
            seen = {number: other for number, other in left.items() if number < 100}
            if not seen:
                break
            told = by_hand(kept, ring, looked_at(kept, seen) if calm else seen)
            self.assertEqual(rule.pick(PLATE, ring, 0, on_rings(PLATE, seen)), told)
            ring = left.pop(told)
            picks.append(told)

    def test_many_picks(self):
        rng = random.Random(1920)
        for make, by_hand in ((Lift, lift_by_hand), (Sweep, sweep_by_hand)):
            for calm in (False, True):
                rule = make(calm)
                for each in range(15):
                    rule.anew()
                    self.go(rng, rule, by_hand, calm)


class TestAnew(unittest.TestCase):
    def test_a_lift_goes_inward_again(self):
        lift = Lift()
        lift.pick(PLATE, 4, 0, on_rings(PLATE, {0: 3}))
        self.assertIsNone(lift.anew())
        self.assertEqual(lift.pick(PLATE, 4, 0, on_rings(PLATE, {0: 3, 1: 8})), 1)

    def test_a_calm_one_has_no_batch_again(self):
        for rule in (Lift(True), Sweep(True)):
            rule.pick(PLATE, 0, 0, on_rings(PLATE, {0: 1, 1: 5}))
            self.assertIsNone(rule.anew())
            self.assertEqual(rule.pick(PLATE, 0, 0, on_rings(PLATE, {1: 5, 2: 1})), 2)
            # It is calm as it was made.
            self.assertEqual(rule.pick(PLATE, 1, 0, on_rings(PLATE, {1: 5, 3: 1})), 1)


class TestClasses(unittest.TestCase):
    def test_under_which_they_stand(self):
        self.assertTrue(issubclass(Lift, Rule))
        self.assertTrue(issubclass(Sweep, Lift))
        self.assertEqual((Lift.__bases__, Sweep.__bases__), ((Rule,), (Lift,)))

    def test_what_is_handed_in_stays(self):
        dues = on_rings(PLATE, {0: 5, 1: 3, 2: 8})
        same = list(dues)
        for rule in (Lift(), Lift(True), Sweep(), Sweep(True)):
            rule.pick(PLATE, 4, 0, dues)
            self.assertEqual(len(dues), 3)
            self.assertTrue(all(due is other for due, other in zip(dues, same)))
            self.assertEqual([(due.number, due.cells) for due in dues], [(0, [(5, 0)]), (1, [(3, 0)]), (2, [(8, 0)])])


if __name__ == "__main__":
    unittest.main()
