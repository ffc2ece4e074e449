import unittest

from armswing.asks import clash, reading, resting, writing
from armswing.errors import NoAsk
from samples import fields


class TestFields(unittest.TestCase):
    def test_reading(self):
        self.assertEqual(fields(reading(3, 2, 7)), ("read", 3, 2, (), 7, 0, None, (), False))
        self.assertEqual(fields(reading(3, 2, 7, 4, 90, [0, 5])), ("read", 3, 2, (), 7, 4, 90, (0, 5), False))
        self.assertEqual(fields(reading(first=3, many=2, at=7, asker=4, latest=90, behind=(0, 5))),
                         ("read", 3, 2, (), 7, 4, 90, (0, 5), False))

    def test_writing(self):
        self.assertEqual(fields(writing(3, [8, 9, 8], 7)), ("write", 3, 3, (8, 9, 8), 7, 0, None, (), False))
        self.assertEqual(fields(writing(3, (8,), 7, 4, 90, (0, 5), True)),
                         ("write", 3, 1, (8,), 7, 4, 90, (0, 5), True))
        self.assertEqual(fields(writing(first=3, marks=[8, 0], at=7, asker=4, latest=0, behind=[5], early=False)),
                         ("write", 3, 2, (8, 0), 7, 4, 0, (5,), False))
        self.assertEqual(fields(writing(3, [1], 7, early=True))[-1], True)

    def test_resting(self):
        self.assertEqual(fields(resting(7)), ("rest", 0, 0, (), 7, 0, None, (), False))
        self.assertEqual(fields(resting(at=0)), ("rest", 0, 0, (), 0, 0, None, (), False))

    def test_behind_left_out_or_of_nobody(self):
        for behind in (None, [], ()):
            self.assertEqual(reading(0, 1, 0, behind=behind).behind, ())
            self.assertEqual(writing(0, [1], 0, behind=behind).behind, ())

    def test_kinds(self):
        for ask in (reading(0, 1, 0), writing(0, [1], 0), resting(0), writing(0, (1,), 0, behind=[1], early=True)):
            self.assertIs(ask.marks.__class__, tuple)
            self.assertIs(ask.behind.__class__, tuple)
            self.assertIs(ask.early.__class__, bool)

    def test_lists_of_others(self):
        marks, behind = [4, 5], [1, 2]
        ask, other = writing(0, marks, 0, behind=behind), reading(0, 1, 0, behind=behind)
        self.assertEqual((marks, behind), ([4, 5], [1, 2]))
        marks[0] = 9
        marks.append(6)
        behind.clear()
        self.assertEqual((ask.marks, ask.many, ask.behind, other.behind), ((4, 5), 2, (1, 2), (1, 2)))


class TestBounds(unittest.TestCase):
    def refused(self, make):
        with self.assertRaises(NoAsk) as caught:
            make()
        self.assertIs(caught.exception.__class__, NoAsk)

    def test_many(self):
        self.assertEqual((reading(0, 1, 0).many, reading(0, 16, 0).many), (1, 16))
        for many in (-1, 0, 17, 10 ** 20):
            self.refused(lambda: reading(0, many, 0))

    def test_marks(self):
        self.assertEqual((writing(0, [0], 0).many, writing(0, [0] * 16, 0).many), (1, 16))
        self.assertEqual(writing(0, [0, 10 ** 9], 0).marks, (0, 10 ** 9))
        for marks in ([], (), [0] * 17, (1,) * 17, [-1], [10 ** 9 + 1], [0, 3, -1], [5, 10 ** 9 + 1, 5]):
            self.refused(lambda: writing(0, marks, 0))

    def test_first(self):
        for first in (0, 10 ** 6):
            self.assertEqual((reading(first, 1, 0).first, writing(first, [1], 0).first), (first, first))
        for first in (-1, 10 ** 6 + 1):
            self.refused(lambda: reading(first, 1, 0))
            self.refused(lambda: writing(first, [1], 0))

    def test_at(self):
        for at in (0, 10 ** 12):
            self.assertEqual((reading(0, 1, at).at, writing(0, [1], at).at, resting(at).at), (at, at, at))
        for at in (-1, 10 ** 12 + 1):
            self.refused(lambda: reading(0, 1, at))
            self.refused(lambda: writing(0, [1], at))
            self.refused(lambda: resting(at))

    def test_asker(self):
        for asker in (0, 20):
            self.assertEqual((reading(0, 1, 0, asker).asker, writing(0, [1], 0, asker).asker), (asker, asker))
        for asker in (-1, 21):
            self.refused(lambda: reading(0, 1, 0, asker))
            self.refused(lambda: writing(0, [1], 0, asker))

    def test_latest(self):
        for latest in (None, 0, 10 ** 13):
            self.assertEqual(reading(0, 1, 5, latest=latest).latest, latest)
            self.assertEqual(writing(0, [1], 5, latest=latest).latest, latest)
        for latest in (-1, 10 ** 13 + 1):
            self.refused(lambda: reading(0, 1, 5, latest=latest))
            self.refused(lambda: writing(0, [1], 5, latest=latest))

    def test_behind(self):
        for behind in ([0], [99], [0, 99], list(range(100)), (3, 4, 50)):
            self.assertEqual(reading(0, 1, 0, behind=behind).behind, tuple(behind))
            self.assertEqual(writing(0, [1], 0, behind=behind).behind, tuple(behind))
        for behind in ([-1], [100], [-1, 5], [5, 100], [5, 4], [0, 7, 6], [5, 5], [0, 0], (1, 2, 2), [-2, -1]):
            self.refused(lambda: reading(0, 1, 0, behind=behind))
            self.refused(lambda: writing(0, [1], 0, behind=behind))


def clashes(one, other):
    return (clash(one, other), clash(other, one))


class TestClash(unittest.TestCase):
    def test_cells_in_common_or_just_none(self):
        middle = writing(5, [1, 2, 3], 0)
        for first, many, told in ((4, 1, False), (3, 2, False), (4, 2, True), (5, 1, True), (6, 1, True), (7, 1, True),
                                  (7, 4, True), (8, 1, False), (8, 9, False), (0, 16, True), (5, 3, True)):
            self.assertEqual(clashes(middle, reading(first, many, 0)), (told, told))
            self.assertEqual(clashes(middle, writing(first, [0] * many, 0)), (told, told))

    def test_kinds(self):
        read, write, rest = reading(0, 4, 0), writing(0, [1, 2, 3, 4], 0), resting(0)
        self.assertEqual(clashes(read, read), (False, False))
        self.assertEqual(clashes(read, reading(2, 1, 9)), (False, False))
        self.assertEqual(clashes(read, write), (True, True))
        self.assertEqual(clashes(write, write), (True, True))
        for other in (read, write, rest, resting(5)):
            self.assertEqual(clashes(rest, other), (False, False))

    def test_truths_and_nothing_else(self):
        self.assertIs(clash(writing(0, [1], 0), reading(0, 1, 0)), True)
        self.assertIs(clash(writing(0, [1], 0), reading(1, 1, 0)), False)
        self.assertIs(clash(reading(0, 1, 0), reading(0, 1, 0)), False)

    def test_against_common_numbers(self):
        asks = [reading(first, many, 0) for first in range(5) for many in range(1, 4)]
        asks += [writing(first, [7] * many, 0) for first in range(5) for many in range(1, 4)]
        for one in asks:
            for other in asks:
                numbers = set(range(one.first, one.first + one.many)) & set(range(other.first, other.first + other.many))
                told = bool(numbers) and "write" in (one.kind, other.kind)
                self.assertIs(clash(one, other), told)


if __name__ == "__main__":
    unittest.main()
