"""A desk that is told lines: asks, plays, and what came of them."""

from armswing.errors import NoBook, TooMany
from armswing.lines import is_number, read_line, rule_of
from armswing.orders import orders
from armswing.plays import play

MOST_ASKS = 100


class Desk:
    def __init__(self, plate, ring=0, shelf=0):
        self.plate = plate
        self.ring = ring
        self.shelf = shelf
        self.asks = []
        self.played = None

    def say(self, line):
        if line == "drop":
            return self.drop_all()
        if line.startswith("go "):
            return self.go_by(line[3:])
        words = line.split(" ")
        if len(words) == 2 and words[0] in ("told", "way") and is_number(words[1]):
            return self.tell(words[0], int(words[1]))
        return self.put(read_line(line))

    def put(self, ask):
        if len(self.asks) >= MOST_ASKS:
            raise TooMany("a hundred asks stand there")
        number = len(self.asks)
        row = self.asks + [ask]
        orders(self.plate, row)
        self.asks = row
        self.played = None
        return f"ask {number}"

    def go_by(self, words):
        self.played = play(self.plate, self.asks, rule_of(words), self.ring, self.shelf)
        beat = self.played.end
        return f"end {beat}"

    def tell(self, word, number):
        if self.played is None or number >= len(self.asks):
            raise NoBook("no ask of that number was played")
        return self.tell_done(number) if word == "told" else self.tell_way(number)

    def tell_done(self, number):
        beat = self.played.told[number]
        marks = self.played.answers[number]
        if marks is None:
            return f"at {beat}"
        return f"at {beat}:" + "".join([f" {mark}" for mark in marks])

    def tell_way(self, number):
        rows = [row[1:] for row in self.played.rows if row[0] == number]
        if not rows:
            return "none"
        return ", ".join([f"{ring}/{place} {begun}-{ended}" for ring, place, begun, ended in rows])

    def drop_all(self):
        count = len(self.asks)
        self.asks = []
        self.played = None
        return f"dropped {count}"
