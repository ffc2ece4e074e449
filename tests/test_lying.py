import random
import unittest

from armswing.asks import reading, resting, writing
from armswing.lying import lying
from armswing.mended import Mended
from armswing.plates import Plate
from armswing.plays import play
from armswing.rules import First
from rows import MADE, RULES, some_row
from samples import SMALL, fields, tells

PLATE = Plate(*SMALL)


class TestLying(unittest.TestCase):
    # Cells 0 and 1 end at 2 and 4, cell 2 (a read) at 6, cell 1 again at 12.
    row = [writing(0, [5, 6], 0), reading(2, 1, 0), writing(1, [7], 0), resting(0)]

    def at(self, beat):
        return lying(PLATE, self.row, play(PLATE, self.row, First()).rows, beat)

    def test_at_beat_0(self):
        self.assertEqual(self.at(0), [0] * 8)

    def test_at_a_beat_at_which_a_cell_ends_and_one_ahead_of_it(self):
        self.assertEqual(self.at(1), [0] * 8)
        self.assertEqual(self.at(2), [5] + [0] * 7)
        self.assertEqual(self.at(3), [5] + [0] * 7)
        self.assertEqual(self.at(4), [5, 6] + [0] * 6)
        self.assertEqual(self.at(6), [5, 6] + [0] * 6)

    def test_two_writes_of_one_cell(self):
        self.assertEqual(self.at(11), [5, 6] + [0] * 6)
        self.assertEqual(self.at(12), [5, 7] + [0] * 6)

    def test_at_the_end_and_beyond(self):
        self.assertEqual(self.at(12), self.at(13))
        self.assertEqual(self.at(10 ** 15), [5, 7] + [0] * 6)

    def test_no_rows(self):
        self.assertEqual(lying(PLATE, [], [], 0), [0] * 8)
        self.assertEqual(lying(PLATE, [resting(4)], [], 10 ** 15), [0] * 8)

    def test_a_mark_of_0_over_another(self):
        row = [writing(0, [5], 0), writing(0, [0], 0)]
        rows = play(PLATE, row, First()).rows
        self.assertEqual([lying(PLATE, row, rows, beat)[0] for beat in (0, 2, 9, 10)], [0, 5, 5, 0])

    def test_on_a_mended_plate(self):
        mended = Mended(*SMALL, 1, [(1, 0)])
        row = [writing(2, [7, 8, 9], 0)]
        rows = play(mended, row, First()).rows
        self.assertEqual([rows[1][1:3], rows[2][1:3]], [(1, 1), (2, 0)])
        self.assertEqual(lying(mended, row, rows, rows[1][4]), [0, 0, 7, 8, 0])
        self.assertEqual(lying(mended, row, rows, rows[2][4]), [0, 0, 7, 8, 9])

    def test_against_its_words(self):
        rng = random.Random(26)
        for plate in MADE:
            for each in range(20):
                row = some_row(rng, plate, 12)
                rows = play(plate, row, rng.choice(RULES)()).rows
                for beat in beats_of_interest(rng, rows):
                    told = lying(plate, row, rows, beat)
                    self.assertEqual(len(told), plate.total())
                    for number in range(plate.total()):
                        cell, found = plate.cell_at(number), 0
                        for ask, ring, place, begun, ended in rows:
                            if (ring, place) == cell and ended <= beat and row[ask].kind == "write":
                                found = row[ask].marks[number - row[ask].first]
                        self.assertEqual(told[number], found)


def beats_of_interest(rng, rows):
    ends = [ended for ask, ring, place, begun, ended in rows]
    near = [end + step for end in rng.sample(ends, min(4, len(ends))) for step in (-1, 0)]
    return [0, 10 ** 15] + near + ends[-1:]


class TestWhenThePowerGoes(unittest.TestCase):
    def test_what_was_told_done_lies_there_or_under_a_newer_one(self):
        rng = random.Random(261)
        for plate in MADE:
            for make in RULES:
                for each in range(5):
                    row, shelf = some_row(rng, plate, 14, spread=plate.lap_beats()), rng.randrange(4)
                    told = play(plate, row, make(), rng.randrange(plate.rings()), shelf)
                    for beat in sorted(set(told.told + [beat - 1 for beat in told.told if beat])):
                        self.look(plate, row, told, beat)

    def look(self, plate, row, told, beat):
        lies = lying(plate, row, told.rows, beat)
        rests = [number for number, ask in enumerate(row) if ask.kind == "rest" and told.told[number] <= beat]
        for number, ask in enumerate(row):
            if ask.kind != "write" or told.told[number] > beat:
                continue
            if ask.early and number > max(rests, default=-1):
                continue
            for step, mark in enumerate(ask.marks):
                newer = [mark]
                for later in row[number + 1:]:
                    at = ask.first + step - later.first
                    newer.extend(later.marks[at:at + 1] if at >= 0 else [])
                self.assertIn(lies[ask.first + step], newer)


class TestWhatIsHandedIn(unittest.TestCase):
    def test_it_stays(self):
        row = [writing(0, [5, 6], 0), reading(2, 1, 0), writing(1, [7], 0)]
        rows = play(PLATE, row, First()).rows
        same, ahead, seen = list(rows), tells(PLATE), [fields(ask) for ask in row]
        told = lying(PLATE, row, rows, 9)
        told[0] = 99
        self.assertEqual((rows, tells(PLATE), [fields(ask) for ask in row]), (same, ahead, seen))
        self.assertEqual(lying(PLATE, row, rows, 9), [5, 6] + [0] * 6)


if __name__ == "__main__":
    unittest.main()
