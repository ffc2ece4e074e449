"""What lies on the plate at a beat."""


def lying(plate, asks, rows, beat):
    marks = [0] * plate.total()
    for number, ring, place, begun, ended in rows:
        ask = asks[number]
        if ask.kind == "write" and ended <= beat:
            cell = plate.number_of(ring, place)
            marks[cell] = ask.marks[cell - ask.first]
    return marks
