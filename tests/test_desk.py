import random
import unittest

from armswing.desk import Desk
from armswing.errors import NoAsk, NoBook, NoCell, NoLine, NoOrder, NoRule, TooMany
from armswing.lines import rule_of, shown
from armswing.mended import Mended
from armswing.plates import Plate
from armswing.plays import play
from rows import MADE, some_row
from samples import SMALL, tells

WORDS = ["first", "nearest", "soonest", "latest", "careful", "lift", "calm lift", "sweep", "calm sweep",
         "shares 0 1 1 2 2 3 3 4"]


class DeskCase(unittest.TestCase):
    def setUp(self):
        self.desk = Desk(Plate(*SMALL))

    def say(self, *lines):
        return [self.desk.say(line) for line in lines]

    def refused(self, kind, line):
        with self.assertRaises(kind) as caught:
            self.desk.say(line)
        self.assertIs(caught.exception.__class__, kind, line)
        return caught.exception


class TestAnswers(DeskCase):
    def test_a_whole_talk(self):
        told = self.say("write 0 7 8 at 0", "read 0 3 at 0", "rest at 3", "early 5 9 at 4", "go first")
        # 0 and 1 end at 2 and 4; cells 0 to 2 from 8 to 14; cell 5 from 21 to 25.
        self.assertEqual(told, ["ask 0", "ask 1", "ask 2", "ask 3", "end 25"])
        self.assertEqual(self.say("told 0", "told 1", "told 2", "told 3"), ["at 4", "at 14: 7 8 0", "at 3", "at 25"])
        self.assertEqual(self.say("way 0", "way 1", "way 2", "way 3"),
                         ["0/0 0-2, 0/1 2-4", "0/0 8-10, 0/1 10-12, 0/2 12-14", "none", "1/1 21-25"])
        self.assertEqual(self.say("drop", "drop", "read 0 1 at 0"), ["dropped 4", "dropped 0", "ask 0"])

    def test_nothing_taken(self):
        self.assertEqual(self.say("go first"), ["end 0"])
        self.assertEqual(self.say("rest at 40", "go calm lift", "told 0", "way 0"), ["ask 0", "end 0", "at 40", "none"])

    def test_ring_and_shelf(self):
        self.desk = Desk(Plate(*SMALL), 2, 1)
        told = self.say("early 0 5 at 0", "early 1 5 at 0", "go first", "way 0", "told 0", "told 1")
        self.assertEqual(told, ["ask 0", "ask 1", "end 12", "0/0 8-10", "at 0", "at 12"])
        self.desk = Desk(plate=Plate(*SMALL), ring=0, shelf=2)
        told = self.say("early 0 5 at 0", "early 1 5 at 0", "go first", "way 0", "told 0", "told 1")
        self.assertEqual(told, ["ask 0", "ask 1", "end 4", "0/0 0-2", "at 0", "at 0"])
        self.desk = Desk(Plate(*SMALL))
        told = self.say("early 0 5 at 0", "go first", "told 0")
        self.assertEqual(told, ["ask 0", "end 2", "at 2"])
        self.desk = Desk(Plate(*SMALL), shelf=1)
        self.assertEqual(self.say("early 0 5 at 0", "go first", "told 0")[2], "at 0")

    def test_a_mended_plate(self):
        self.desk = Desk(Mended(*SMALL, 1, [(1, 0)]))
        told = self.say("write 3 5 at 0", "read 3 1 at 0", "go first", "way 0", "told 1")
        self.assertEqual(told, ["ask 0", "ask 1", "end 17", "1/1 5-9", "at 17: 5"])

    def test_two_plays(self):
        self.say("read 1 1 at 0", "read 0 1 at 0", "go first")
        self.assertEqual(self.say("told 0", "told 1"), ["at 4: 0", "at 10: 0"])
        self.assertEqual(self.say("go soonest", "told 0", "told 1"), ["end 4", "at 4: 0", "at 2: 0"])

    def test_two_desks_side_by_side(self):
        one, other = Desk(Plate(*SMALL)), Desk(Plate(*SMALL))
        self.assertEqual([one.say("read 0 1 at 0"), other.say("write 0 5 at 0"), other.say("read 0 1 at 0")],
                         ["ask 0", "ask 0", "ask 1"])
        self.assertEqual([one.say("go first"), other.say("go first")], ["end 2", "end 10"])
        self.assertEqual([one.say("told 0"), other.say("told 1"), one.say("drop")], ["at 2: 0", "at 10: 5", "dropped 1"])
        self.assertEqual(other.say("told 1"), "at 10: 5")

    def test_as_play_tells(self):
        rng = random.Random(40)
        for plate in MADE:
            ahead = tells(plate)
            for each in range(8):
                row, ring, shelf = some_row(rng, plate, 10), rng.randrange(plate.rings()), rng.randrange(3)
                self.desk = Desk(plate, ring, shelf)
                self.assertEqual([self.desk.say(shown(ask)) for ask in row], [f"ask {at}" for at in range(len(row))])
                for word in WORDS:
                    played = play(plate, row, rule_of(word), ring, shelf)
                    self.assertEqual(self.desk.say("go " + word), f"end {played.end}")
                    self.as_played(row, played)
                self.assertEqual(self.desk.say("drop"), f"dropped {len(row)}")
            self.assertEqual(tells(plate), ahead)

    def as_played(self, row, played):
        for number in range(len(row)):
            marks = played.answers[number]
            told = f"at {played.told[number]}" + ("" if marks is None else ":" + "".join(f" {mark}" for mark in marks))
            self.assertEqual(self.desk.say(f"told {number}"), told)
            cells = [f"{ring}/{place} {begun}-{ended}" for ask, ring, place, begun, ended in played.rows if ask == number]
            self.assertEqual(self.desk.say(f"way {number}"), ", ".join(cells) if cells else "none")


class TestRefusals(DeskCase):
    def test_no_line(self):
        for line in ("", " ", "go", "gofirst", "Go first", " go first", "told", "told ", "told  0", "told 0 ", "told 0 1",
                     "told 00", "told -1", "told x", "told " + "1" * 16, "told +1", "way", "way ", "way 01", "way 0 1",
                     "ways 0", "drop ", " drop", "drop 0", "Drop", "dropped", "hello", "read 0 1 at", "ask 0", "end",
                     "rest", "tell 0", "first", "told go first"):
            self.refused(NoLine, line)
            self.say("read 0 1 at 0", "go first")
            self.refused(NoLine, line)
            self.assertEqual(self.say("told 0", "drop"), ["at 2: 0", "dropped 1"])

    def test_no_ask(self):
        self.refused(NoAsk, "read 0 17 at 0")
        self.refused(NoAsk, "read 0 1 at 0 behind 100")
        self.assertEqual(self.say("read 0 1 at 0"), ["ask 0"])

    def test_as_point_16_says(self):
        self.say("read 0 1 at 5", "rest at 6")
        told = self.refused(NoOrder, "read 0 1 at 5")
        self.assertEqual((told.ask, told.other), (2, 1))
        told = self.refused(NoCell, "read 7 2 at 6")
        self.assertEqual((told.cell, told.ask), (8, 2))
        told = self.refused(NoOrder, "read 7 1 at 6 behind 0 1")
        self.assertEqual((told.ask, told.other), (2, 1))
        told = self.refused(NoOrder, "read 7 1 at 6 behind 2")
        self.assertEqual((told.ask, told.other), (2, 2))
        # The beat first, the cells next, then what it is told to stay behind.
        self.assertEqual(self.refused(NoOrder, "read 8 1 at 5 behind 9").other, 1)
        self.refused(NoCell, "read 8 1 at 6 behind 9")
        self.assertEqual(self.say("read 7 1 at 6 behind 0"), ["ask 2"])

    def test_a_hundred_and_one_more(self):
        for number in range(100):
            self.assertEqual(self.say("read 0 1 at 5"), [f"ask {number}"])
        self.refused(TooMany, "read 0 1 at 5")
        # Ahead of what point 16 says, behind what point 38 says.
        self.refused(TooMany, "read 8 1 at 4 behind 99")
        self.refused(TooMany, "rest at 0")
        self.refused(NoLine, "read 0 1 at 05")
        self.refused(NoAsk, "read 0 17 at 5")
        self.assertEqual(self.say("go first")[0][:4], "end ")
        self.refused(TooMany, "read 0 1 at 5")
        self.assertEqual(self.say("way 99", "drop", "read 0 1 at 0"), ["0/0 800-802", "dropped 100", "ask 0"])

    def test_no_rule(self):
        self.say("read 0 1 at 0 for 3")
        for rule in ("", " ", "first ", " first", "calm", "shares", "shares 0 5", "shares 3", "nobody", "go first"):
            self.refused(NoRule, "go " + rule)
        self.refused(NoRule, "go shares 0 1")
        self.refused(NoBook, "told 0")
        self.assertEqual(self.say("go shares 0 1 3 1", "told 0"), ["end 2", "at 2: 0"])

    def test_no_rule_goes_ahead_where_there_are_no_asks(self):
        self.refused(NoRule, "go nobody")
        # Nothing is picked, so that no asker can lack.
        self.assertEqual(self.say("go shares 7 1"), ["end 0"])

    def test_no_book(self):
        for word in ("told", "way"):
            self.refused(NoBook, word + " 0")
        self.say("go first")
        self.refused(NoBook, "told 0")
        self.say("read 0 1 at 0")
        for line in ("told 0", "way 0", "told 1", "way 999999999999999"):
            self.refused(NoBook, line)
        self.say("go first")
        for line in ("told 1", "way 1", "told 999999999999999"):
            self.refused(NoBook, line)
        self.assertEqual(self.say("told 0", "way 0"), ["at 2: 0", "0/0 0-2"])
        self.say("rest at 0")
        for line in ("told 0", "way 0", "told 1"):
            self.refused(NoBook, line)
        self.say("go first", "drop")
        for line in ("told 0", "way 0"):
            self.refused(NoBook, line)
        self.say("read 0 1 at 0")
        self.refused(NoBook, "told 0")

    def test_what_is_refused_changes_nothing(self):
        self.say("write 0 7 at 0 for 1", "read 0 1 at 2 for 2", "go nearest")
        book = self.say("told 0", "told 1", "way 0", "way 1")
        for kind, line in ((NoLine, "hello"), (NoAsk, "read 0 17 at 9"), (NoOrder, "read 0 1 at 1"),
                           (NoCell, "read 8 1 at 9"), (NoOrder, "read 0 1 at 9 behind 2"), (NoRule, "go nobody"),
                           (NoRule, "go shares 1 1"), (NoRule, "go shares 2 1"), (NoBook, "told 2"), (NoBook, "way 7")):
            self.refused(kind, line)
            self.assertEqual(self.say("told 0", "told 1", "way 0", "way 1"), book)
        self.assertEqual(self.say("read 0 1 at 2"), ["ask 2"])


if __name__ == "__main__":
    unittest.main()
