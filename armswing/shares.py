"""Shares: askers have turns, and in each turn so many asks."""

from armswing.errors import NoRule
from armswing.rules import Rule

MOST_PAIRS = 4
GREATEST_ASKER = 20
GREATEST_SHARE = 4


def check_shares(shares):
    if len(shares) < 1 or len(shares) > MOST_PAIRS:
        raise NoRule("shares are 1 to 4 pairs")
    askers = {}
    for asker, share in shares:
        if asker < 0 or asker > GREATEST_ASKER:
            raise NoRule("an asker is 0 to 20")
        if asker in askers:
            raise NoRule("each asker has one share")
        if share < 1 or share > GREATEST_SHARE:
            raise NoRule("a share is 1 to 4")
        askers[asker] = share


def least_by_asker(dues):
    least = {}
    for due in dues:
        number = least.get(due.ask.asker, due.number)
        least[due.ask.asker] = min(number, due.number)
    return least


class Shares(Rule):
    def __init__(self, shares):
        check_shares(shares)
        self.pairs = [(asker, share) for asker, share in shares]
        self.anew()

    def anew(self):
        self.turn = 0
        self.used = 0

    def pick(self, plate, ring, beat, dues):
        least = least_by_asker(dues)
        self.check_askers(least)
        pair = self.pairs[self.turn]
        if self.used >= pair[1] or pair[0] not in least:
            self.turn = self.next_turn(least)
            self.used = 0
        self.used = self.used + 1
        return least[self.pairs[self.turn][0]]

    def check_askers(self, least):
        known = [asker for asker, share in self.pairs]
        for asker in least:
            if asker not in known:
                raise NoRule("an ask of an asker without a share")

    def next_turn(self, least):
        turn = (self.turn + 1) % len(self.pairs)
        while self.pairs[turn][0] not in least:
            turn = (turn + 1) % len(self.pairs)
        return turn
