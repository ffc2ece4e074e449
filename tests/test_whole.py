"""Point 4 over the whole program: what holds by every rule, on every plate, for every row."""

import random
import unittest

from armswing.books import first_wrong
from armswing.desk import Desk
from armswing.errors import ArmError
from armswing.lines import rule_of, shown
from armswing.lying import lying
from armswing.mended import Mended
from armswing.orders import orders
from armswing.plates import Plate
from armswing.plays import play
from rows import MADE, one_by_one, some_row
from samples import PLATES, fields, tells

WORDS = ["first", "nearest", "soonest", "latest", "careful", "lift", "calm lift", "sweep", "calm sweep",
         "shares 3 1 2 2 1 3 0 4"]


class TestThePromise(unittest.TestCase):
    def test_every_rule_on_every_plate(self):
        rng = random.Random(4)
        for plate in MADE + [Plate(*PLATES[7]), Plate(*PLATES[9])]:
            for word in WORDS:
                for each in range(3):
                    row, ring, shelf = some_row(rng, plate, 20), rng.randrange(plate.rings()), rng.randrange(3)
                    seen = [fields(ask) for ask in row]
                    self.holds(plate, row, ring, play(plate, row, rule_of(word), ring, shelf))
                    self.assertEqual([fields(ask) for ask in row], seen)

    def holds(self, plate, row, ring, played):
        self.assertIsNone(first_wrong(plate, row, played.rows, ring))
        self.assertEqual(played.answers, one_by_one(row))
        begun, ended, cells = {}, {}, {}
        for at, (number, there, place, start, end) in enumerate(played.rows):
            begun.setdefault(number, start)
            ended[number] = end
            cells.setdefault(number, []).append(at)
        self.assertEqual(sorted(begun), [number for number, ask in enumerate(row) if ask.kind != "rest"])
        for number, kept in enumerate(orders(plate, row)):
            if row[number].kind == "rest":
                continue
            # Once, whole, and without another one between its cells; not ahead of its coming.
            self.assertEqual(cells[number], list(range(cells[number][0], cells[number][0] + row[number].many)))
            self.assertGreaterEqual(begun[number], row[number].at)
            for other in kept:
                self.assertGreaterEqual(begun[number], ended[other])
        for beat in sorted(set(played.told)):
            self.lies(plate, row, played, beat)

    def lies(self, plate, row, played, beat):
        marks = lying(plate, row, played.rows, beat)
        rests = [number for number, ask in enumerate(row) if ask.kind == "rest" and played.told[number] <= beat]
        for number, ask in enumerate(row):
            sure = not ask.early or number < max(rests, default=-1)
            if ask.kind == "write" and played.told[number] <= beat and sure:
                for step in range(ask.many):
                    newer = [marks_at(later, ask.first + step) for later in row[number:]]
                    self.assertIn(marks[ask.first + step], newer)

    def test_bad_cells_change_no_answer(self):
        rng = random.Random(41)
        told = ([(4, 6), (2, 12)], 24, 5, [0, 2, 3, 5, 6, 8])
        whole = Mended(*told, 2, [])
        cells = [(ring, place) for ring in range(6) for place in range(whole.cells_of(ring))]
        for each in range(12):
            bad = rng.sample(cells, rng.randrange(1, 5))
            mended = Mended(*told, 2, bad)
            row = some_row(rng, whole, 20)
            for word in WORDS:
                one, other = play(whole, row, rule_of(word)), play(mended, row, rule_of(word))
                self.assertEqual(one.answers, other.answers)
                self.assertEqual(lying(whole, row, one.rows, one.end), lying(mended, row, other.rows, other.end))
                self.assertFalse(set(bad) & {(ring, place) for ask, ring, place, begun, ended in other.rows})

    def test_the_book_hangs_on_the_order_alone(self):
        rng = random.Random(42)
        for plate in MADE:
            books = {}
            row = some_row(rng, plate, 6, rests=False, spread=0)
            for word in WORDS:
                played = play(plate, row, rule_of(word))
                order = tuple(sorted(range(len(row)), key=lambda number: played.taken[number]))
                self.assertEqual(books.setdefault(order, played.rows), played.rows)

    def test_a_desk_answers_or_refuses_with_an_error_of_its_own(self):
        rng = random.Random(43)
        plate = MADE[0]
        ahead, desk = tells(plate), Desk(plate, 1, 2)
        lines = [shown(ask) for ask in some_row(rng, plate, 40)] + ["go " + word for word in WORDS]
        lines += ["told 0", "way 1", "told 7", "drop", "go", "rest at 9999"]
        for each in range(3000):
            line = rng.choice(lines)
            if rng.randrange(4) == 0:
                at = rng.randrange(len(line) + 1)
                line = line[:at] + rng.choice([" ", "0", "9", "x", ""]) + line[at + rng.randrange(2):]
            try:
                self.assertIs(desk.say(line).__class__, str)
            except ArmError as refusal:
                self.assertIsNot(refusal.__class__, ArmError)
        self.assertEqual(tells(plate), ahead)


def marks_at(ask, number):
    """The mark that a write lays at a number, None where it lays none there."""
    at = number - ask.first
    return ask.marks[at] if ask.kind == "write" and 0 <= at < ask.many else None


if __name__ == "__main__":
    unittest.main()
