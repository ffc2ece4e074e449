import random
import unittest

from armswing.heaps import heap_put, heap_take


def taken_out(heap):
    things = []
    while heap:
        things.append(heap_take(heap))
    return things


class TestHeaps(unittest.TestCase):
    def test_an_empty_one(self):
        heap = []
        self.assertIsNone(heap_take(heap))
        self.assertEqual(heap, [])
        self.assertIsNone(heap_put(heap, (3,)))
        self.assertEqual(heap_take(heap), (3,))
        self.assertIsNone(heap_take(heap))

    def test_putting_in_gives_none(self):
        heap = []
        for thing in ((5, 1), (2, 0), (9,), (2, 0)):
            self.assertIsNone(heap_put(heap, thing))

    def test_the_least_first(self):
        rng = random.Random(31)
        for count in list(range(40)) + [1000]:
            things = [(rng.randrange(20), rng.randrange(20)) for each in range(count)]
            for order in (things, sorted(things), sorted(things, reverse=True)):
                heap = []
                for thing in order:
                    heap_put(heap, thing)
                self.assertEqual(len(heap), count)
                self.assertEqual(taken_out(heap), sorted(things))
                self.assertIsNone(heap_take(heap))

    def test_put_in_and_taken_out_in_turn(self):
        rng = random.Random(311)
        heap, held = [], []
        for each in range(4000):
            if rng.randrange(5) < 3:
                thing = (rng.randrange(9), rng.randrange(9), (rng.randrange(3),))
                heap_put(heap, thing)
                held.append(thing)
            else:
                told = heap_take(heap)
                self.assertEqual(told, min(held) if held else None)
                if held:
                    held.remove(told)
        self.assertEqual(taken_out(heap), sorted(held))

    def test_pythons_order_of_tuples(self):
        things = [(1, 2), (1,), (), (1, 1, 9), (0, 99), (1, 2, 0), (-1,), (10 ** 20,), ("",)[:0]]
        heap = []
        for thing in things:
            heap_put(heap, thing)
        self.assertEqual(taken_out(heap), sorted(things))

    def test_equal_ones(self):
        heap = []
        for each in range(9):
            heap_put(heap, (4, 4))
            heap_put(heap, (4, 3))
        self.assertEqual(taken_out(heap), [(4, 3)] * 9 + [(4, 4)] * 9)

    def test_two_heaps_keep_apart(self):
        one, other = [], []
        heap_put(one, (1,))
        heap_put(other, (2,))
        self.assertEqual((heap_take(other), heap_take(one), heap_take(one)), ((2,), (1,), None))


if __name__ == "__main__":
    unittest.main()
