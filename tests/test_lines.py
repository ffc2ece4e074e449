import random
import unittest

from armswing.asks import reading, resting, writing
from armswing.careful import Careful
from armswing.errors import NoAsk, NoLine, NoRule
from armswing.lifts import Lift, Sweep
from armswing.lines import read_line, rule_of, shown
from armswing.plates import Plate
from armswing.rules import First, Latest, Nearest, Soonest
from armswing.shares import Shares
from rows import of_askers, on_rings
from samples import SMALL, fields

LINES = {
    "read 0 1 at 0": reading(0, 1, 0),
    "read 1000000 16 at 1000000000000": reading(10 ** 6, 16, 10 ** 12),
    "read 5 2 at 7 for 20": reading(5, 2, 7, 20),
    "read 5 2 at 7 by 0": reading(5, 2, 7, latest=0),
    "read 5 2 at 7 behind 0": reading(5, 2, 7, behind=[0]),
    "read 5 2 at 7 for 3 by 10000000000000": reading(5, 2, 7, 3, 10 ** 13),
    "read 5 2 at 7 for 3 behind 1 2 99": reading(5, 2, 7, 3, behind=[1, 2, 99]),
    "read 5 2 at 7 by 90 behind 4": reading(5, 2, 7, latest=90, behind=[4]),
    "read 5 2 at 7 for 1 by 90 behind 4 6": reading(5, 2, 7, 1, 90, [4, 6]),
    "write 0 0 at 0": writing(0, [0], 0),
    "write 3 7 8 1000000000 at 12": writing(3, [7, 8, 10 ** 9], 12),
    "write 3 7 at 12 for 2": writing(3, [7], 12, 2),
    "write 3 7 at 12 by 5": writing(3, [7], 12, latest=5),
    "write 3 7 8 at 12 behind 0 5": writing(3, [7, 8], 12, behind=[0, 5]),
    "write 3 7 8 at 12 for 4 by 5 behind 0": writing(3, [7, 8], 12, 4, 5, [0]),
    "early 3 7 8 at 12": writing(3, [7, 8], 12, early=True),
    "early 3 7 at 12 for 4 by 5 behind 0 1": writing(3, [7], 12, 4, 5, [0, 1], True),
    "rest at 0": resting(0),
    "rest at 1000000000000": resting(10 ** 12),
}


class TestBackAndForth(unittest.TestCase):
    def test_every_line(self):
        for line, ask in LINES.items():
            self.assertEqual(shown(ask), line)
            self.assertEqual(fields(read_line(line)), fields(ask))

    def test_for_0_is_read(self):
        self.assertEqual(fields(read_line("read 5 2 at 7 for 0")), fields(reading(5, 2, 7)))
        self.assertEqual(fields(read_line("write 5 2 at 7 for 0 by 3")), fields(writing(5, [2], 7, latest=3)))
        self.assertEqual(shown(read_line("read 5 2 at 7 for 0")), "read 5 2 at 7")

    def test_the_longest(self):
        ask = writing(10 ** 6, [10 ** 9] * 16, 10 ** 12, 20, 10 ** 13, list(range(100)), True)
        self.assertLessEqual(len(shown(ask)), 600)
        self.assertEqual(fields(read_line(shown(ask))), fields(ask))

    def test_many(self):
        rng = random.Random(38)
        for each in range(300):
            behind = sorted(rng.sample(range(100), rng.randrange(5)))
            more = (rng.randrange(10 ** 12), rng.randrange(21), rng.choice([None, 0, rng.randrange(10 ** 13)]), behind)
            first = rng.randrange(10 ** 6)
            if rng.randrange(2):
                ask = reading(first, rng.randrange(1, 17), *more)
            else:
                marks = [rng.randrange(10 ** 9) for step in range(rng.randrange(1, 17))]
                ask = writing(first, marks, *more, rng.randrange(2) == 0)
            self.assertEqual(fields(read_line(shown(ask))), fields(ask))

    def test_what_is_handed_in_stays(self):
        ask = writing(3, [7, 8], 12, 4, 5, [0], True)
        seen = fields(ask)
        shown(ask)
        self.assertEqual(fields(ask), seen)


class TestNoLine(unittest.TestCase):
    def refused(self, line):
        with self.assertRaises(NoLine) as caught:
            read_line(line)
        self.assertIs(caught.exception.__class__, NoLine, line)

    def test_texts_that_are_none(self):
        for line in ("", " ", "  ", "read", "write", "early", "rest", "at", "hello", "READ 0 1 at 0", "Read 0 1 at 0",
                     "rest at", "rest 5", "rest at 5 6", "rest 0 at 5", "reads 0 1 at 0", "go first", "drop", "told 0"):
            self.refused(line)

    def test_blanks(self):
        for line in LINES:
            self.refused(" " + line)
            self.refused(line + " ")
            self.refused(line + "\n")
            for at in range(len(line)):
                if line[at] == " ":
                    self.refused(line[:at] + " " + line[at:])

    def test_a_word_left_out_or_twice(self):
        for line in LINES:
            words = line.split(" ")
            for at, word in enumerate(words):
                if not word.isdigit():
                    self.refused(" ".join(words[:at] + words[at + 1:]))
                    self.refused(" ".join(words[:at + 1] + words[at:]))

    def test_words_in_another_order(self):
        for line in ("read 5 2 at 7 by 9 for 3", "read 5 2 at 7 behind 0 for 3", "read 5 2 at 7 behind 0 by 3",
                     "read 5 2 for 3 at 7", "at 7 read 5 2", "read at 7 5 2", "write 5 at 7 2", "read 5 2 by 9 at 7",
                     "write 3 7 at 12 for 4 behind 0 by 5"):
            self.refused(line)

    def test_words_twice(self):
        for line in ("read 5 2 at 7 at 7", "read 5 2 at 7 for 3 for 3", "read 5 2 at 7 by 9 by 9",
                     "read 5 2 at 7 behind 0 behind 1", "read 5 2 at 7 for 1 by 2 for 1"):
            self.refused(line)

    def test_numbers_missing_or_too_many(self):
        for line in ("read 5 at 7", "read at 7", "read 5 2 3 at 7", "read 5 2 at", "read 5 2 at for 3", "write 5 at 7",
                     "write at 7", "early 5 at 7", "read 5 2 at 7 8", "read 5 2 at 7 for", "read 5 2 at 7 for 3 4",
                     "read 5 2 at 7 by", "read 5 2 at 7 by 3 4", "read 5 2 at 7 behind", "write 5 2 at 7 8",
                     "read 5 2 at 7 for by 3"):
            self.refused(line)

    def test_numbers_written_otherwise(self):
        for number in ("00", "01", "007", "-1", "+1", "-0", "1.0", "1e3", "0x1", "1_000", "a", "1a", "a1", "1,", "x",
                       "1" * 16, "0" * 15, "9" * 40, "~", "\u0661", "\u00b2"):
            for line in LINES:
                words = line.split(" ")
                for at, word in enumerate(words):
                    if word.isdigit():
                        self.refused(" ".join(words[:at] + [number] + words[at + 1:]))

    def test_a_rest_has_nothing_more(self):
        for more in ("for 0", "for 1", "by 3", "behind 0"):
            self.refused("rest at 5 " + more)

    def test_ahead_of_no_ask(self):
        # It makes no ask either way, but it is no line at all.
        for line in ("read 5 17 at 7 by", "read 5 0 at 07", "write 5 9999999999 at 7 behind", "rest at 9999999999999 0",
                     "read 9999999 1 at 7 for 3 for 4"):
            self.refused(line)


class TestNoAsk(unittest.TestCase):
    def test_lines_that_make_no_ask(self):
        for line in ("read 0 0 at 0", "read 0 17 at 0", "read 1000001 1 at 0", "read 0 1 at 1000000000001",
                     "read 0 1 at 999999999999999", "read 0 1 at 0 for 21", "read 0 1 at 0 by 10000000000001",
                     "read 0 1 at 0 behind 100", "read 0 1 at 0 behind 5 4", "read 0 1 at 0 behind 4 4",
                     "write 0 1000000001 at 0", "write 0" + " 1" * 17 + " at 0", "early 0" + " 1" * 17 + " at 0",
                     "early 0 5 at 0 behind 2 1", "rest at 1000000000001", "write 0 1 at 0 for 100",
                     "read 999999999999999 1 at 0"):
            with self.assertRaises(NoAsk) as caught:
                read_line(line)
            self.assertIs(caught.exception.__class__, NoAsk, line)


PLATE = Plate(*SMALL)


class TestRules(unittest.TestCase):
    def test_each_of_its_own_class(self):
        for line, kind in (("first", First), ("nearest", Nearest), ("soonest", Soonest), ("latest", Latest),
                           ("careful", Careful), ("lift", Lift), ("calm lift", Lift), ("sweep", Sweep),
                           ("calm sweep", Sweep), ("shares 0 1", Shares)):
            self.assertIs(rule_of(line).__class__, kind, line)
            self.assertIsNot(rule_of(line), rule_of(line))

    def test_calm_or_not(self):
        for line, number in (("lift", 2), ("calm lift", 1), ("sweep", 2), ("calm sweep", 1)):
            rule = rule_of(line)
            self.assertEqual(rule.pick(PLATE, 0, 0, on_rings(PLATE, {0: 0, 1: 2})), 0)
            self.assertEqual(rule.pick(PLATE, 0, 0, on_rings(PLATE, {1: 2, 2: 1})), number)

    def test_shares(self):
        rule = rule_of("shares 20 1 3 2")
        left, picks = {0: 3, 1: 3, 2: 3, 3: 20, 4: 20}, []
        while left:
            number = rule.pick(PLATE, 0, 0, of_askers(PLATE, left))
            picks.append(number)
            left.pop(number)
        self.assertEqual(picks, [3, 0, 1, 4, 2])
        for line in ("shares 0 4", "shares 0 1 1 1 2 1 3 1"):
            self.assertIs(rule_of(line).__class__, Shares)

    def test_other_texts(self):
        for line in ("", " ", "first ", " first", "First", "FIRST", "calm", "calm first", "calm  lift", "calm lift ",
                     " calm lift", "Calm lift", "lift calm", "calmlift", "calm sweeps", "rule", "go first", "first\n",
                     "shares", "shares ", "shares 0", "shares 0 1 2", "shares  0 1", "shares 0  1", "shares 0 1 ",
                     " shares 0 1", "Shares 0 1", "share 0 1", "0 1", "shares 0 01", "shares 00 1", "shares +0 1",
                     "shares -1 1", "shares 21 1", "shares 0 0", "shares 0 5", "shares 0 1 0 1", "shares 0 1, 1 1",
                     "shares 0 1 1 1 2 1 3 1 4 1", "shares (0, 1)", "shares 0 1111111111111111", "shares 0 a",
                     "shares a 0 1", "shares 0 1 first", "shares_ 0 1", "shares 0\u0661 1"):
            with self.assertRaises(NoRule) as caught:
                rule_of(line)
            self.assertIs(caught.exception.__class__, NoRule, line)


if __name__ == "__main__":
    unittest.main()
