"""Latest beats: an order of a few dues that keeps them all, or some dues that no order can all keep."""

from armswing.leastways import are_few, behind_among, check_few, left_behind, next_behind
from armswing.rules import Latest, latest_of
from armswing.ways import way_end


class Search:
    def __init__(self, plate, dues):
        self.plate = plate
        self.dues = dues
        self.kept = behind_among(dues)
        self.failed = {}

    def late_next(self, begun, ring, beat):
        for due in left_behind(self.dues, begun):
            latest = due.ask.latest
            if latest is not None and way_end(self.plate, ring, beat, due.cells)[1] > latest:
                return due.number
        return None

    def order_from(self, begun, ring, beat):
        if len(begun) == len(self.dues):
            return begun
        # Who is late as the next one is no less late behind others; and who failed from here fails later, too.
        state = (tuple(sorted(begun)), ring)
        if beat >= self.failed.get(state, beat + 1) or self.late_next(begun, ring, beat) is not None:
            return None
        for due in next_behind(self.dues, self.kept, begun):
            stop = way_end(self.plate, ring, beat, due.cells)
            found = self.order_from(begun + (due.number,), stop[0], stop[1])
            if found is not None:
                return found
        self.failed[state] = beat
        return None

    def leaves_from(self, begun, ring, beat):
        late = self.late_next(begun, ring, beat)
        if late is not None:
            return [(begun, late)]
        leaves = []
        for due in next_behind(self.dues, self.kept, begun):
            stop = way_end(self.plate, ring, beat, due.cells)
            leaves.extend(self.leaves_from(begun + (due.number,), stop[0], stop[1]))
        return leaves


def order_in_time(plate, ring, beat, dues):
    return Search(plate, dues).order_from((), ring, beat)


def not_all_in_time(plate, ring, beat, dues):
    # Fewer dues are never later, so that one that could not be left out once can't be left out afterwards either.
    some = dues
    for due in dues:
        others = [other for other in some if other.number != due.number]
        if order_in_time(plate, ring, beat, others) is None:
            some = others
    return some


def in_time(plate, ring, beat, dues):
    check_few(dues)
    order = order_in_time(plate, ring, beat, dues)
    if order is not None:
        return ("order", order)
    some = not_all_in_time(plate, ring, beat, dues)
    leaves = Search(plate, some).leaves_from((), ring, beat)
    return ("cannot", tuple([due.number for due in some]), leaves)


class Careful(Latest):
    def pick(self, plate, ring, beat, dues):
        order = order_in_time(plate, ring, beat, dues) if are_few(dues) else None
        return latest_of(dues) if order is None else order[0]
