"""Lean sifts: they keep only what can still matter, and can be put asleep and woken."""

from earlysift.chains import Coming


class Lean:
    def __init__(self, question):
        self.coming = Coming(question)

    def take(self, sign):
        return self.coming.feed(sign)

    def waiting(self):
        return self.coming.waits()

    def is_over(self):
        return self.coming.has_ended()

    def asleep(self):
        coming = self.coming
        # The outermost row is no part of the paper; what else a row knows follows from these three.
        rows = [(row.number, row.named, row.atoms) for row in coming.rows[1:]]
        return (coming.taken, coming.opened, rows, list(coming.rests))


def woken(question, value):
    lean = Lean(question)
    coming = lean.coming
    coming.taken = value[0]
    coming.opened = value[1]
    for row in value[2]:
        coming.begin_row(row[0], row[1], row[2])
    # Nothing is new in what answers by now: it was told before the lean sift was put asleep.
    coming.settle()
    coming.rests = list(value[3])
    return lean
