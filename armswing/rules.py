"""Rules that keep nothing: which one of some dues is next."""

from armswing.ways import way


def ring_of(due):
    return due.cells[0][0]


def first_of(dues):
    return min([due.number for due in dues])


def nearest_of(ring, dues):
    return min(dues, key=lambda due: (abs(ring_of(due) - ring), due.number)).number


def first_begin(plate, ring, beat, due):
    return way(plate, ring, beat, due.cells[:1])[0][2]


def soonest_of(plate, ring, beat, dues):
    return min(dues, key=lambda due: (first_begin(plate, ring, beat, due), due.number)).number


def latest_of(dues):
    bound = [due for due in dues if due.ask.latest is not None]
    if not bound:
        return first_of(dues)
    return min(bound, key=lambda due: (due.ask.latest, due.number)).number


class Rule:
    def pick(self, plate, ring, beat, dues):
        return first_of(dues)

    def anew(self):
        return None


class First(Rule):
    pass


class Nearest(Rule):
    def pick(self, plate, ring, beat, dues):
        return nearest_of(ring, dues)


class Soonest(Rule):
    def pick(self, plate, ring, beat, dues):
        return soonest_of(plate, ring, beat, dues)


class Latest(Rule):
    def pick(self, plate, ring, beat, dues):
        return latest_of(dues)
