"""Trays: many questions sifted from one row of signs."""

from earlysift.errors import Late, NoPart, NoSign, Taken
from earlysift.papers import can_come
from earlysift.sifts import Sift


class Tray:
    def __init__(self):
        self.sifts = {}
        # Kept here too, as a tray without questions refuses signs like any other.
        self.taken = 0
        self.depth = 0

    def put(self, name, question):
        if self.taken > 0:
            raise Late()
        if name in self.sifts:
            raise Taken()
        self.sifts[name] = Sift(question)

    def take(self, sign):
        if not can_come(sign, self.depth > 0, self.taken > 0):
            raise NoSign(self.taken)
        self.taken += 1
        if sign[0] == "open":
            self.depth += 1
        if sign[0] == "close":
            self.depth -= 1
        return [(name, sift.take(sign)) for name, sift in self.sifts.items()]

    def told(self, name):
        if name not in self.sifts:
            raise NoPart()
        return self.sifts[name].told()
