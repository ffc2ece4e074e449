import pickle
import unittest

from armswing import errors

PLAIN = ["NoPlate", "NoAsk", "NoRule", "TooMany", "NoLine", "NoBook"]
WITH_FIELDS = ["NoCell", "NoSpare", "NoOrder"]


class TestClasses(unittest.TestCase):
    def test_each_stands_under_the_base_alone(self):
        listed = [getattr(errors, name) for name in PLAIN + WITH_FIELDS]
        self.assertTrue(issubclass(errors.ArmError, ValueError))
        for one in listed:
            self.assertTrue(issubclass(one, errors.ArmError), one)
            self.assertTrue(issubclass(one, ValueError), one)
            self.assertFalse(issubclass(errors.ArmError, one), one)
            for other in listed:
                self.assertEqual(issubclass(one, other), one is other, (one, other))

    def test_plain_ones_are_made_of_one_text(self):
        for name in PLAIN + ["ArmError"]:
            with self.assertRaises(ValueError) as caught:
                raise getattr(errors, name)("some words")
            self.assertEqual(str(caught.exception), "some words")
            self.assertEqual(caught.exception.args, ("some words",))


class TestFields(unittest.TestCase):
    def test_no_cell(self):
        self.assertEqual((errors.NoCell(7).cell, errors.NoCell(7).ask), (7, None))
        self.assertEqual((errors.NoCell((1, 2)).cell, errors.NoCell((1, 2)).ask), ((1, 2), None))
        self.assertEqual((errors.NoCell(7, 3).cell, errors.NoCell(7, 3).ask), (7, 3))
        made = errors.NoCell(cell=8, ask=0)
        self.assertEqual((made.cell, made.ask), (8, 0))

    def test_no_spare(self):
        self.assertEqual(errors.NoSpare(5).cell, 5)
        self.assertEqual(errors.NoSpare(cell=0).cell, 0)

    def test_no_order(self):
        made = errors.NoOrder(4, 2)
        self.assertEqual((made.ask, made.other), (4, 2))
        made = errors.NoOrder(other=1, ask=9)
        self.assertEqual((made.ask, made.other), (9, 1))

    def test_wrong_numbers_of_arguments(self):
        for make in (lambda: errors.NoCell(), lambda: errors.NoSpare(), lambda: errors.NoOrder(1),
                     lambda: errors.NoCell(1, 2, 3), lambda: errors.NoSpare(1, 2)):
            self.assertRaises(TypeError, make)

    def test_fields_go_along_with_a_copy(self):
        for made in (errors.NoCell(7, 3), errors.NoCell((1, 2)), errors.NoSpare(5), errors.NoOrder(ask=4, other=2)):
            again = pickle.loads(pickle.dumps(made))
            self.assertEqual((again.__class__, vars(again)), (made.__class__, vars(made)))


if __name__ == "__main__":
    unittest.main()
