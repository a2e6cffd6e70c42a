"""Sifts: each part that answers is told with the sign that settles it; the others with what they wait for."""

from earlysift.chains import Coming
from earlysift.endings import ending_for, shortest_ending
from earlysift.errors import Late, NoPart
from earlysift.hopes import hope_of, outlook_of


class Sift:
    def __init__(self, question):
        self.coming = Coming(question)
        self.numbers = []

    def take(self, sign):
        fresh = self.coming.feed(sign)
        self.numbers = sorted(self.numbers + fresh)
        return fresh

    def told(self):
        return list(self.numbers)

    def waiting(self):
        return self.coming.waits()

    def is_over(self):
        return self.coming.has_ended()

    def shortest(self):
        self.need_a_sign()
        return shortest_ending(self.coming)

    def ending(self, number):
        if number not in self.coming.waits():
            raise NoPart()
        return ending_for(self.coming, number)

    def outlook(self):
        self.need_a_sign()
        return outlook_of(self.coming, len(self.numbers) > 0)

    def hope(self):
        self.need_a_sign()
        signs = hope_of(self.coming, len(self.numbers) > 0)
        if signs is None:
            raise NoPart()
        return signs

    def need_a_sign(self):
        if self.coming.taken == 0:
            raise Late()
