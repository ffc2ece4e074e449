"""Ways: when the cells of a list pass under the arm, one behind the other."""


def next_begin(plate, ring, place, beat):
    return beat + (plate.begins(ring, place) - beat) % plate.lap_beats()


def way(plate, ring, beat, cells):
    rows = []
    for other, place in cells:
        begun = next_begin(plate, other, place, beat + plate.swing_of(ring, other))
        ring = other
        beat = begun + plate.beats_of(other)
        rows.append((ring, place, begun, beat))
    return rows


def way_end(plate, ring, beat, cells):
    rows = way(plate, ring, beat, cells)
    if not rows:
        return (ring, beat)
    return (rows[-1][0], rows[-1][3])
