import random
import unittest

from armswing.asks import reading, resting, writing
from armswing.errors import NoCell, NoOrder, NoRule
from armswing.lifts import Lift, Sweep
from armswing.mended import Mended
from armswing.orders import orders, stretch
from armswing.plates import Plate
from armswing.plays import play
from armswing.rules import First, Nearest, Rule, Soonest
from armswing.shares import Shares
from armswing.ways import way
from rows import MADE, RULES, one_by_one, passing, reads_alone, some_row, waiting
from samples import ONE_ZONE, SMALL, fields, tells

PLATE = Plate(*SMALL)


class Spy(Rule):
    """Picks as it is told, keeping what it was handed."""

    def __init__(self, choose):
        self.choose, self.seen, self.begun = choose, [], 0

    def anew(self):
        self.begun = self.begun + 1

    def pick(self, plate, ring, beat, dues):
        numbers = [due.number for due in dues]
        self.seen.append((ring, beat, numbers))
        self.last = (plate, dues)
        return self.choose(numbers)


def all_of(played):
    return (played.rows, played.taken, played.told, played.answers, played.end)


def told_by_hand(row, ends, shelf):
    told, on_shelf = [], []
    for number, ask in enumerate(row):
        if ask.kind == "rest":
            early = [ends[other] for other in range(number) if row[other].early]
            told.append(max(early + [ask.at]))
        elif ask.early and len([other for other in on_shelf if ends[other] > ask.at]) < shelf:
            on_shelf.append(number)
            told.append(ask.at)
        else:
            told.append(ends[number])
    return told


class TestTaking(unittest.TestCase):
    def test_no_asks_and_rests_alone(self):
        for make in RULES:
            self.assertEqual(all_of(play(PLATE, [], make())), ([], [], [], [], 0))
            told = play(PLATE, [resting(3), resting(10 ** 12)], make(), 2, 20)
            self.assertEqual(all_of(told), ([], [None, None], [3, 10 ** 12], [None, None], 0))

    def test_one_ask(self):
        told = play(PLATE, [reading(4, 2, 0)], First())
        # From ring 0 the arm is at ring 1 at beat 3; the cells begin at 9 and 13.
        self.assertEqual(all_of(told), ([(0, 1, 0, 9, 13), (0, 1, 1, 13, 17)], [0], [17], [[0, 0]], 17))
        told = play(PLATE, [reading(4, 1, 0)], First(), 1)
        self.assertEqual((told.rows, told.end), ([(0, 1, 0, 1, 5)], 5))
        told = play(plate=PLATE, asks=[reading(4, 1, 0)], rule=First(), ring=2, shelf=3)
        self.assertEqual((told.rows, told.end), ([(0, 1, 0, 9, 13)], 13))

    def test_gaps_between_comings(self):
        row = [reading(0, 1, 0), reading(1, 1, 100), reading(0, 1, 100), reading(6, 1, 1000)]
        spy = Spy(max)
        told = play(PLATE, row, spy)
        self.assertEqual(spy.seen, [(0, 0, [0]), (0, 100, [1, 2]), (0, 106, [1]), (0, 1000, [3])])
        self.assertEqual(told.taken, [0, 106, 100, 1000])
        self.assertEqual(told.rows, [(0, 0, 0, 0, 2), (2, 0, 0, 104, 106), (1, 0, 1, 106, 108), (3, 2, 0, 1010, 1014)])
        self.assertEqual((told.end, told.told), (1014, [2, 108, 106, 1014]))

    def test_a_first_coming_later_than_beat_0(self):
        spy = Spy(min)
        told = play(PLATE, [reading(0, 1, 7), reading(0, 1, 8)], spy, 1)
        self.assertEqual(spy.seen, [(1, 7, [0]), (0, 18, [1])])
        self.assertEqual(told.taken, [7, 18])

    def test_who_comes_at_the_very_beat_is_due(self):
        # The first ask ends at beat 2.
        for at, numbers in ((1, [1]), (2, [1]), (3, [1])):
            spy = Spy(min)
            told = play(PLATE, [reading(0, 1, 0), reading(1, 1, at)], spy)
            self.assertEqual(spy.seen[1], (0, max(at, 2), numbers))
            self.assertEqual(told.taken[1], max(at, 2))
        spy = Spy(min)
        play(PLATE, [reading(0, 1, 0), reading(1, 1, 0), reading(2, 1, 2), reading(2, 1, 3)], spy)
        self.assertEqual([seen[2] for seen in spy.seen], [[0, 1], [1, 2], [2, 3], [3]])

    def test_asks_that_keep_behind_others(self):
        row = [writing(0, [5], 0), reading(0, 1, 0), reading(5, 1, 0), reading(6, 1, 0, behind=[2]),
               writing(0, [6], 0, behind=[3])]
        spy = Spy(max)
        told = play(PLATE, row, spy)
        self.assertEqual([seen[2] for seen in spy.seen], [[0, 2], [0, 3], [0], [1], [4]])
        self.assertEqual(told.answers, [None, [5], [0], [0], None])

    def test_keeping_behind_one_that_has_not_been_done_though_it_came(self):
        row = [writing(0, [5], 0), resting(0), reading(0, 1, 1), reading(7, 1, 1)]
        spy = Spy(max)
        play(PLATE, row, spy)
        self.assertEqual([seen[2] for seen in spy.seen], [[0], [2, 3], [2]])

    def test_what_a_rule_is_handed(self):
        spy = Spy(min)
        mended = Mended(*SMALL, 1, [(1, 0)])
        ask = reading(2, 2, 4)
        play(mended, [ask], spy)
        plate, dues = spy.last
        self.assertIs(plate, mended)
        self.assertIs(dues[0].ask, ask)
        self.assertEqual((dues[0].number, dues[0].cells, spy.begun), (0, [(0, 2), (1, 1)], 1))

    def test_a_rule_may_change_the_list_of_dues(self):
        class Greedy(Rule):
            def pick(self, plate, ring, beat, dues):
                number = dues.pop().number
                dues.clear()
                return number
        row = [reading(0, 1, 0), reading(1, 1, 0), reading(2, 1, 0)]
        self.assertEqual(all_of(play(PLATE, row, Greedy())), all_of(play(PLATE, row, Spy(max))))

    def test_once_whole_and_as_the_way_says(self):
        rng = random.Random(23)
        for plate in MADE:
            for make in RULES:
                for each in range(6):
                    row, ring = some_row(rng, plate, 14), rng.randrange(plate.rings())
                    self.look_through(plate, row, ring, play(plate, row, make(), ring))

    def look_through(self, plate, row, ring, told):
        """Points 23 and 24, with nothing but orders, stretch and way."""
        kept, beat, done, rows = orders(plate, row), 0, [], list(told.rows)
        real = [number for number, ask in enumerate(row) if ask.kind != "rest"]
        while len(done) < len(real):
            left = [number for number in real if number not in done]
            if min(row[number].at for number in left) > beat:
                beat = min(row[number].at for number in left)
            dues = [number for number in left if row[number].at <= beat and not set(kept[number]) & set(left)]
            taken = rows[0][0]
            self.assertIn(taken, dues)
            self.assertEqual(told.taken[taken], beat)
            for told_row in way(plate, ring, beat, stretch(plate, row[taken])):
                self.assertEqual(rows.pop(0), (taken,) + told_row)
                ring, beat = told_row[0], told_row[3]
            done.append(taken)
        self.assertEqual((rows, told.end), ([], beat if real else 0))
        self.assertEqual([told.taken[number] for number, ask in enumerate(row) if ask.kind == "rest"],
                         [None] * (len(row) - len(real)))

    def test_a_hundred_asks(self):
        row = [reading(number % 8, 1, 0, number % 4) for number in range(100)]
        for make in RULES:
            told = play(PLATE, row, make())
            self.assertEqual(sorted(row[0] for row in told.rows), list(range(100)))


class TestByTheirRules(unittest.TestCase):
    row = [reading(7, 1, 0, 1), reading(4, 1, 0, 2), reading(0, 1, 0, 1), reading(3, 1, 0, 1), reading(5, 1, 0, 2)]

    def order(self, rule, ring=0):
        taken = play(PLATE, self.row, rule, ring).taken
        return sorted(range(len(taken)), key=lambda number: taken[number])

    def test_orders(self):
        self.assertEqual(self.order(First()), [0, 1, 2, 3, 4])
        self.assertEqual(self.order(Nearest()), [2, 3, 1, 4, 0])
        self.assertEqual(self.order(Nearest(), 2), [0, 1, 4, 2, 3])
        self.assertEqual(self.order(Lift(), 1), [1, 4, 0, 2, 3])
        self.assertEqual(self.order(Sweep(), 1), [1, 4, 0, 2, 3])
        # From beat 0 and ring 0: cell 0 begins at 0; from 2 on cell 5 at 5; from 9 on at ring 1 cell 4 at 9; from 13
        # on cell 3 at 22, cell 7 at 22: the lesser number; from 26 on cell 3.
        self.assertEqual(self.order(Soonest()), [2, 4, 1, 0, 3])
        self.assertEqual(self.order(Shares([(2, 1), (1, 2)])), [1, 0, 2, 4, 3])


class TestAnswers(unittest.TestCase):
    def test_marks_of_writes_taken_ahead(self):
        row = [writing(1, [7, 8], 0), reading(0, 4, 0), writing(2, [9], 0), reading(1, 3, 0), resting(0),
               writing(1, [0], 0), reading(1, 1, 0)]
        for make in RULES:
            told = play(PLATE, row, make())
            self.assertEqual(told.answers, [None, [0, 7, 8, 0], None, [7, 9, 0], None, None, [0]])

    def test_as_if_done_one_by_one(self):
        rng = random.Random(24)
        for plate in MADE:
            for make in RULES:
                for each in range(8):
                    row = some_row(rng, plate, 16)
                    told = play(plate, row, make(), rng.randrange(plate.rings()), rng.randrange(4))
                    self.assertEqual(told.answers, one_by_one(row))

    def test_bad_cells_laid_elsewhere_change_no_answer(self):
        rng = random.Random(4)
        whole, mended = Mended(*ONE_ZONE, 2, []), Mended(*ONE_ZONE, 2, [(1, 0), (1, 3), (1, 1), (0, 2), (2, 5)])
        for make in RULES:
            for each in range(8):
                row = some_row(rng, whole, 16)
                self.assertEqual(play(whole, row, make()).answers, play(mended, row, make()).answers)

    def test_a_read_tells_what_is_the_askers_own(self):
        row = [writing(0, [3], 0), reading(0, 1, 0), reading(0, 1, 0)]
        told = play(PLATE, row, First())
        told.answers[1].append(99)
        self.assertEqual(told.answers[2], [3])
        self.assertEqual(play(PLATE, row, First()).answers, [None, [3], [3]])


class TestTold(unittest.TestCase):
    def test_reads_and_writes(self):
        told = play(PLATE, [reading(0, 2, 0), writing(2, [1], 0)], First(), 0, 20)
        self.assertEqual(told.told, [4, 6])

    def test_an_early_write_without_a_shelf(self):
        row = [writing(0, [1, 2], 0, early=True), writing(2, [3], 1, early=True)]
        self.assertEqual(play(PLATE, row, First()).told, [4, 6])
        self.assertEqual(play(PLATE, row, First(), 0, 0).told, [4, 6])

    def test_with_room_and_without(self):
        row = [writing(0, [1], 0, early=True), writing(1, [1], 0, early=True), writing(2, [1], 0, early=True),
               writing(3, [1], 1, early=True)]
        # They end at 2, 4, 6 and 8.
        self.assertEqual(play(PLATE, row, First(), 0, 0).told, [2, 4, 6, 8])
        self.assertEqual(play(PLATE, row, First(), 0, 1).told, [0, 4, 6, 8])
        self.assertEqual(play(PLATE, row, First(), 0, 2).told, [0, 0, 6, 8])
        self.assertEqual(play(PLATE, row, First(), 0, 3).told, [0, 0, 0, 8])
        self.assertEqual(play(PLATE, row, First(), 0, 4).told, [0, 0, 0, 1])
        self.assertEqual(play(PLATE, row, First(), 0, 20).told, [0, 0, 0, 1])

    def test_at_the_very_beat_at_which_one_ends(self):
        for at, told in ((1, 8), (2, 2), (3, 3)):
            row = [writing(0, [1], 0, early=True), reading(1, 2, 0), writing(3, [1], at, early=True)]
            self.assertEqual(play(PLATE, row, First(), 0, 1).told, [0, 6, told])

    def test_those_that_were_not_told_at_their_coming_take_no_room(self):
        # 1 finds no room; at beat 2 the shelf is free, though 1 ends later than that.
        row = [writing(0, [1], 0, early=True), writing(1, [1], 1, early=True), writing(2, [1], 2, early=True)]
        self.assertEqual(play(PLATE, row, First(), 0, 1).told, [0, 4, 2])

    def test_ends_by_the_whole_plays_book(self):
        # 0 is taken last of all, so that it takes the one room for long.
        row = [writing(0, [1], 0, early=True), writing(5, [1], 0), reading(6, 1, 5), writing(7, [1], 10, early=True)]
        told = play(PLATE, row, Spy(max), 0, 1)
        self.assertEqual((told.taken, told.told), ([26, 0, 9, 22], [0, 9, 22, 26]))
        self.assertEqual(play(PLATE, row, Spy(max), 0, 2).told, [0, 9, 22, 10])

    def test_writes_that_are_not_early_take_no_room(self):
        row = [writing(0, [1], 0), writing(1, [1], 0, early=True)]
        self.assertEqual(play(PLATE, row, First(), 0, 1).told, [2, 0])

    def test_rests(self):
        early = [writing(0, [1], 0, early=True), writing(1, [1], 0, early=True)]
        for at, told in ((0, 4), (3, 4), (4, 4), (5, 5)):
            self.assertEqual(play(PLATE, early + [resting(at)], First(), 0, 2).told, [0, 0, told])
            # It makes no odds to a rest whether they were told at their coming.
            self.assertEqual(play(PLATE, early + [resting(at)], First(), 0, 0).told, [2, 4, told])

    def test_rests_look_at_early_writes_with_lesser_numbers_alone(self):
        row = [resting(0), writing(0, [1], 0, early=True), resting(0), writing(1, [1], 0), reading(0, 4, 0), resting(0),
               writing(2, [5], 0, early=True), resting(1)]
        ends = play(PLATE, row, First()).told
        self.assertEqual(ends, [0, 2, 2, 4, 16, 2, 22, 22])

    def test_the_last_of_all_to_end_counts(self):
        row = [writing(0, [1], 0, early=True), writing(1, [1], 0, early=True), resting(0)]
        told = play(PLATE, row, Spy(max), 0, 2)
        self.assertEqual((told.taken, told.told), ([4, 0, None], [0, 0, 10]))

    def test_against_its_words(self):
        rng = random.Random(25)
        for plate in MADE:
            for each in range(60):
                row, shelf = some_row(rng, plate, 20, spread=plate.lap_beats()), rng.randrange(5)
                told = play(plate, row, rng.choice(RULES)(), 0, shelf)
                ends = {number: ended for number, ring, place, begun, ended in told.rows}
                self.assertEqual(told.told, told_by_hand(row, ends, shelf))


class TestWaits(unittest.TestCase):
    def test_by_first_none_is_passed_over(self):
        rng = random.Random(281)
        for plate in MADE:
            for each in range(10):
                row = reads_alone(rng, plate, 30)
                self.assertEqual(passing(row, play(plate, row, First()).taken), [0] * len(row))

    def test_by_calm_ones_fewer_than_the_most_waiting(self):
        rng = random.Random(282)
        for plate in MADE:
            for make in (Lift, Sweep):
                for each in range(20):
                    row = reads_alone(rng, plate, 40, plate.lap_beats() * rng.randrange(1, 4))
                    taken = play(plate, row, make(True), rng.randrange(plate.rings())).taken
                    for passed in passing(row, taken):
                        self.assertLess(passed, waiting(row, taken))

    def test_by_shares_the_told_bound(self):
        rng = random.Random(283)
        for plate in MADE:
            for each in range(20):
                shares = [(asker, rng.randrange(1, 5)) for asker in rng.sample(range(4), 4)]
                row = reads_alone(rng, plate, 40, plate.lap_beats() * rng.randrange(1, 4))
                taken = play(plate, row, Shares(shares)).taken
                whole = sum(share for asker, share in shares)
                for number, ask in enumerate(row):
                    own = dict(shares)[ask.asker]
                    since = [other for other in range(len(row)) if ask.at <= taken[other] < taken[number]]
                    # Those of its own asker with lesser numbers are all taken ahead of it.
                    ahead = len([other for other in since if row[other].asker == ask.asker and other < number])
                    others = len([other for other in since if row[other].asker != ask.asker])
                    self.assertLessEqual(others, (ahead // own + 1) * (whole - own))


class TestRefusals(unittest.TestCase):
    def test_first_as_orders_does(self):
        spy = Spy(min)
        with self.assertRaises(NoCell) as caught:
            play(PLATE, [reading(0, 1, 0), reading(7, 2, 0)], spy)
        self.assertEqual((caught.exception.cell, caught.exception.ask), (8, 1))
        with self.assertRaises(NoOrder) as caught:
            play(PLATE, [reading(0, 1, 5), reading(7, 1, 0)], spy)
        self.assertEqual((caught.exception.ask, caught.exception.other), (1, 0))
        self.assertEqual(spy.seen, [])

    def test_orders_goes_ahead_of_the_rule(self):
        with self.assertRaises(NoOrder):
            play(PLATE, [reading(0, 1, 0, 9), reading(7, 1, 0, behind=[1])], Shares([(0, 1)]))

    def test_later_as_the_rule_does(self):
        row = [reading(0, 1, 0, 1), reading(0, 1, 50, 9), resting(60)]
        with self.assertRaises(NoRule) as caught:
            play(PLATE, row, Shares([(1, 1)]))
        self.assertIs(caught.exception.__class__, NoRule)
        self.assertEqual(play(PLATE, row, Shares([(1, 1), (9, 1)])).taken, [0, 50, None])


class TestAnew(unittest.TestCase):
    def test_a_play_begins_its_rule_anew(self):
        for each in range(2):
            spy = Spy(min)
            play(PLATE, [reading(0, 1, 0)] * each, spy)
            self.assertEqual(spy.begun, 1)

    def test_two_plays_of_one_rule(self):
        rng = random.Random(22)
        for plate in MADE:
            for make in RULES:
                rule = make()
                for each in range(4):
                    row = some_row(rng, plate, 15)
                    told = play(plate, row, rule, 1, 2)
                    self.assertEqual(all_of(told), all_of(play(plate, row, make(), 1, 2)))

    def test_a_rule_that_was_refused_begins_anew(self):
        rule = Shares([(1, 2), (2, 2)])
        with self.assertRaises(NoRule):
            play(PLATE, [reading(0, 1, 0, 1), reading(0, 1, 1, 3)], rule)
        row = [reading(0, 1, 0, asker) for asker in (2, 2, 2, 1, 1, 1)]
        self.assertEqual(all_of(play(PLATE, row, rule)), all_of(play(PLATE, row, Shares([(1, 2), (2, 2)]))))


class TestWhatIsHandedIn(unittest.TestCase):
    def test_it_stays(self):
        rng = random.Random(2)
        for plate in MADE[:2] + MADE[-2:]:
            for make in RULES:
                row = some_row(rng, plate, 12)
                same, ahead, seen = list(row), tells(plate), [fields(ask) for ask in row]
                play(plate, row, make(), 1, 1)
                self.assertTrue(len(row) == len(same) and all(ask is other for ask, other in zip(row, same)))
                self.assertEqual((tells(plate), [fields(ask) for ask in row]), (ahead, seen))

    def test_what_is_told_keeps_to_itself(self):
        row = [writing(0, [3], 0, early=True), reading(0, 2, 0), resting(1)]
        rule = Nearest()
        told = play(PLATE, row, rule, 0, 1)
        ahead = ([(0, 0, 0, 0, 2), (1, 0, 0, 8, 10), (1, 0, 1, 10, 12)], [0, 2, None], [0, 12, 2], [None, [3, 0], None], 12)
        self.assertEqual(all_of(told), ahead)
        play(PLATE, row + [reading(5, 1, 2)], rule, 2, 0)
        row.clear()
        self.assertEqual(all_of(told), ahead)


if __name__ == "__main__":
    unittest.main()
