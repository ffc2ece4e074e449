"""Lifts and sweeps: rules that go over the rings one way, and calm ones that keep a batch."""

from armswing.rules import Rule, nearest_of, ring_of


def that_way(inward, ring, dues):
    if inward:
        return [due for due in dues if ring_of(due) >= ring]
    return [due for due in dues if ring_of(due) <= ring]


def batch_of(dues):
    batch = {}
    for due in dues:
        batch[due.number] = True
    return batch


class Lift(Rule):
    def __init__(self, calm=False):
        self.calm = calm
        self.anew()

    def anew(self):
        self.inward = True
        self.batch = {}

    def pick(self, plate, ring, beat, dues):
        return self.choose(ring, self.looked_at(dues))

    def looked_at(self, dues):
        if not self.calm:
            return dues
        if not any([due.number in self.batch for due in dues]):
            self.batch = batch_of(dues)
        return [due for due in dues if due.number in self.batch]

    def choose(self, ring, dues):
        if not that_way(self.inward, ring, dues):
            self.inward = not self.inward
        return nearest_of(ring, that_way(self.inward, ring, dues))


class Sweep(Lift):
    def choose(self, ring, dues):
        ahead = that_way(True, ring, dues)
        if ahead:
            return nearest_of(ring, ahead)
        # No ring is less than 0, so that the nearest to it has the least ring of all.
        return nearest_of(0, dues)
