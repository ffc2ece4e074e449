"""Plays: a row of asks gone over by a rule, with its book."""

from armswing.course import Course


class Played:
    def __init__(self, rows, taken, told, answers, end):
        self.rows = rows
        self.taken = taken
        self.told = told
        self.answers = answers
        self.end = end


def last_ends(rows):
    ends = {}
    for number, ring, place, begun, ended in rows:
        ends[number] = ended
    return ends


def numbers_of(ask):
    return list(range(ask.first, ask.first + ask.many))


def answers_of(asks, picks):
    answers = [None] * len(asks)
    marks = {}
    for number in picks:
        ask = asks[number]
        if ask.kind == "read":
            answers[number] = [marks.get(cell, 0) for cell in numbers_of(ask)]
        else:
            marks.update(dict(zip(numbers_of(ask), ask.marks)))
    return answers


def told_of(asks, ends, shelf):
    told = []
    early_ends = []
    shelf_ends = []
    for number, ask in enumerate(asks):
        if ask.kind == "rest":
            told.append(max([ask.at] + early_ends))
        elif ask.early:
            early_ends.append(ends[number])
            # How full the shelf is hangs on the ends of earlier ones alone, as the whole book tells them.
            if len([end for end in shelf_ends if end > ask.at]) < shelf:
                shelf_ends.append(ends[number])
                told.append(ask.at)
            else:
                told.append(ends[number])
        else:
            told.append(ends[number])
    return told


def play(plate, asks, rule, ring=0, shelf=0):
    course = Course(plate, asks, ring)
    rule.anew()
    rows = []
    picks = []
    taken = [None] * len(asks)
    while course.left:
        dues = course.ready()
        number = rule.pick(plate, course.ring, course.beat, dues)
        picks.append(number)
        taken[number] = course.beat
        rows.extend(course.take(number))
    ends = last_ends(rows)
    end = rows[-1][4] if rows else 0
    return Played(rows, taken, told_of(asks, ends, shelf), answers_of(asks, picks), end)
