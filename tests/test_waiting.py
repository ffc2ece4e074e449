import random
import unittest

from armswing.asks import reading, resting, writing
from armswing.lifts import Lift, Sweep
from armswing.plates import Plate
from armswing.plays import play
from armswing.rules import First, Nearest
from armswing.shares import Shares
from armswing.waiting import most_waiting, passed_over
from rows import MADE, RULES, passing, reads_alone, some_row, waiting
from samples import SMALL, fields

PLATE = Plate(*SMALL)


class TestPassedOver(unittest.TestCase):
    def test_nothing_taken(self):
        self.assertEqual(passed_over([], []), [])
        self.assertEqual(passed_over([resting(0), resting(4)], [None, None]), [None, None])

    def test_by_those_with_greater_numbers_taken_ahead(self):
        row = [reading(0, 1, 0) for number in range(4)]
        self.assertEqual(passed_over(row, [0, 5, 9, 12]), [0, 0, 0, 0])
        self.assertEqual(passed_over(row, [12, 9, 5, 0]), [3, 2, 1, 0])
        self.assertEqual(passed_over(row, [9, 0, 12, 5]), [2, 0, 1, 0])

    def test_rests_play_no_part(self):
        row = [resting(0), writing(0, [1], 0), resting(0), reading(3, 1, 0), resting(0)]
        self.assertEqual(passed_over(row, [None, 7, None, 0, None]), [None, 1, None, 0, None])

    def test_those_that_come_later_count_too(self):
        row = [reading(7, 1, 0), reading(0, 1, 0), reading(1, 1, 1)]
        taken = play(PLATE, row, Nearest()).taken
        self.assertEqual((taken, passed_over(row, taken)), ([4, 0, 2], [2, 0, 0]))


class TestMostWaiting(unittest.TestCase):
    def test_nothing_taken(self):
        self.assertEqual(most_waiting([], []), 0)
        self.assertEqual(most_waiting([resting(0), resting(0)], [None, None]), 0)

    def test_itself_too(self):
        self.assertEqual(most_waiting([reading(0, 1, 0)], [0]), 1)
        self.assertEqual(most_waiting([reading(0, 1, 0), reading(0, 1, 50)], [0, 50]), 1)

    def test_who_comes_at_the_very_beat_at_which_one_is_taken(self):
        self.assertEqual(most_waiting([reading(0, 1, 0), reading(0, 1, 0), reading(1, 1, 4)], [0, 3, 9]), 2)
        self.assertEqual(most_waiting([reading(0, 1, 0), reading(0, 1, 0), reading(1, 1, 3)], [0, 3, 9]), 2)
        self.assertEqual(most_waiting([reading(0, 1, 0), reading(0, 1, 3), reading(1, 1, 3)], [3, 9, 15]), 3)
        self.assertEqual(most_waiting([reading(0, 1, 0), reading(0, 1, 4), reading(1, 1, 4)], [3, 9, 15]), 2)

    def test_who_was_taken_ahead_waits_no_more(self):
        row = [reading(0, 1, 0), reading(0, 1, 0), reading(0, 1, 0)]
        self.assertEqual(most_waiting(row, [9, 0, 5]), 3)
        self.assertEqual(most_waiting(row + [reading(0, 1, 6)], [9, 0, 5, 20]), 3)
        self.assertEqual(most_waiting(row + [reading(0, 1, 5)], [9, 0, 5, 20]), 3)
        self.assertEqual(most_waiting(row + [reading(0, 1, 5)] * 2, [9, 0, 5, 20, 30]), 4)

    def test_rests_do_not_wait(self):
        row = [resting(0), reading(0, 1, 0), resting(0), writing(1, [1], 0), resting(9)]
        self.assertEqual(most_waiting(row, [None, 0, None, 3, None]), 2)


class TestOfPlays(unittest.TestCase):
    def test_against_their_words(self):
        rng = random.Random(27)
        for plate in MADE:
            for make in RULES:
                for each in range(6):
                    row = some_row(rng, plate, 14)
                    taken = play(plate, row, make(), rng.randrange(plate.rings())).taken
                    seen, same = [fields(ask) for ask in row], list(taken)
                    self.assertEqual(passed_over(row, taken), passing(row, taken))
                    self.assertEqual(most_waiting(row, taken), waiting(row, taken))
                    self.assertEqual(([fields(ask) for ask in row], taken), (seen, same))

    def test_by_first_and_by_calm_ones(self):
        rng = random.Random(28)
        for plate in MADE:
            for each in range(15):
                row = reads_alone(rng, plate, 40, plate.lap_beats() * rng.randrange(1, 4))
                ring = rng.randrange(plate.rings())
                taken = play(plate, row, First(), ring).taken
                self.assertEqual(passed_over(row, taken), [0] * len(row))
                for rule in (Lift(True), Sweep(True)):
                    taken = play(plate, row, rule, ring).taken
                    for passed in passed_over(row, taken):
                        self.assertLess(passed, most_waiting(row, taken))

    def test_one_that_is_not_calm_may_be_passed_over_more_often(self):
        # Else the test above would say nothing: the same comings keep an ask waiting by a lift.
        row = [reading(4, 1, 0)] + [reading(0, 1, 0)] + [reading(0, 1, 8 * lap + 1) for lap in range(9)]
        taken = play(PLATE, row, Lift()).taken
        self.assertEqual((passed_over(row, taken)[0], most_waiting(row, taken)), (10, 2))
        taken = play(PLATE, row, Lift(True)).taken
        self.assertEqual(passed_over(row, taken)[0], 1)

    def test_by_shares(self):
        shares = [(1, 2), (2, 1), (3, 1)]
        row = [reading(0, 1, 0, asker) for asker in (3, 3, 1, 1, 1, 1, 2, 2, 2)]
        taken = play(PLATE, row, Shares(shares)).taken
        # 1 1 2 3, 1 1 2 3, 2
        self.assertEqual(passed_over(row, taken), [3, 6, 0, 0, 1, 1, 0, 0, 0])


if __name__ == "__main__":
    unittest.main()
