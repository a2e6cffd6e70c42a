"""Cutters: each part that answers is handed out whole, as soon as it has closed and answers."""

from earlysift.chains import Coming
from earlysift.papers import signs_of, stump


class Cutter:
    def __init__(self, question):
        self.coming = Coming(question)
        # All parts by their numbers, as far as they have come.
        self.pieces = []
        # The numbers of the open parts, the innermost last, and of those among them that answer.
        self.row = []
        self.answered = {}

    def take(self, sign):
        numbers = self.coming.feed(sign)
        if sign[0] == "close":
            number = self.row.pop()
            return self.cut([number]) if number in self.answered else []
        self.grow(sign)
        for number in numbers:
            self.answered[number] = True
        return self.cut([number for number in numbers if number not in self.row])

    def grow(self, sign):
        piece = (sign[1], []) if sign[0] == "open" else sign[1]
        if self.row:
            self.pieces[self.row[-1]][1].append(piece)
        if sign[0] == "open":
            self.row.append(len(self.pieces))
            self.pieces.append(piece)

    def cut(self, numbers):
        # Parts within one another would share lists: each is built anew from its signs.
        return [(number, stump(signs_of(self.pieces[number]))) for number in numbers]
