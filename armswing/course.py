"""The course of a row of asks: where and when the arm is free, and which asks could be taken then."""

from armswing.orders import Due, orders
from armswing.ways import way


class Course:
    def __init__(self, plate, asks, ring):
        self.keeping = orders(plate, asks)
        self.plate = plate
        self.ring = ring
        self.beat = 0
        # A dict keeps the order in which keys came, so that the dues stand here by rising numbers.
        self.left = {}
        for number, ask in enumerate(asks):
            if ask.kind != "rest":
                self.left[number] = Due(plate, number, ask)

    def stay(self):
        comings = [due.ask.at for due in self.left.values()]
        self.beat = max(self.beat, min(comings, default=self.beat))

    def has_to_wait(self, number):
        return any([other in self.left for other in self.keeping[number]])

    def ready(self):
        self.stay()
        come = [due for due in self.left.values() if due.ask.at <= self.beat]
        return [due for due in come if not self.has_to_wait(due.number)]

    def take(self, number):
        due = self.left.pop(number)
        rows = [(number, ring, place, begun, ended)
                for ring, place, begun, ended in way(self.plate, self.ring, self.beat, due.cells)]
        self.ring = rows[-1][1]
        self.beat = rows[-1][4]
        return rows
