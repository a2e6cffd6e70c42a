"""Chains: which steps of the question parts of a coming paper answer, and which they can still come to answer."""

from earlysift.errors import NoSign
from earlysift.facts import Facts, can_hold
from earlysift.papers import can_come

# A mask of chains has bit k where a part answers the first k steps of the question. The part whose only own part is
# the paper answers no steps: it stands as the outermost row, and has bit 0 alone.


class Row:
    # An open part.

    def __init__(self, number, named, atoms):
        self.number = number
        self.named = named
        self.atoms = atoms
        # The steps whose name and wish it fits by now.
        self.fits = 0
        # Masks of chains: by now, and as it can come to be; each of the part, and of it and all parts around it.
        self.reached = 0
        self.reached_around = 0
        self.hoped = 0
        self.hoped_around = 0


class Coming:
    # A paper that comes. Of parts that have closed only those that wait are kept: as rests, tuples (number, place,
    # own, around). The part answers as soon as the row at that place comes to have a chain out of the mask own, or
    # that row or one around it comes to have one out of the mask around.

    def __init__(self, question):
        self.facts = Facts(question)
        self.full = 1 << len(self.facts.question)
        self.able = able_steps(self.facts.question)
        self.taken = 0
        self.opened = 0
        self.rows = [top_row()]
        self.rests = []

    def feed(self, sign):
        if not can_come(sign, len(self.rows) > 1, self.opened > 0):
            raise NoSign(self.taken)
        self.taken += 1
        if sign[0] == "close":
            self.end_row()
            return []
        if sign[0] == "open":
            self.begin_row(self.opened, self.facts.steps_for(sign[1]), 0)
            self.opened += 1
            self.spread()
        else:
            self.add_atoms(self.facts.text_fact(sign[1]))
        return self.newly_told()

    def has_ended(self):
        return self.opened > 0 and len(self.rows) == 1

    def begin_row(self, number, named, atoms):
        row = Row(number, named, atoms)
        parent = self.rows[-1]
        row.fits = self.facts.fitting(named, atoms)
        row.hoped = self.gone_on(parent.hoped, parent.hoped_around, named & self.able)
        row.hoped_around = parent.hoped_around | row.hoped
        self.rows.append(row)

    def gone_on(self, parent, around, fits):
        # The chains of a part that fits these steps, from those of its parent and of all parts around it.
        return ((parent | (around & self.facts.inner)) & fits) << 1

    def add_atoms(self, atoms):
        row = self.rows[-1]
        if atoms & ~row.atoms:
            row.atoms |= atoms
            self.spread()

    def spread(self):
        # The innermost row's facts have changed: each row gives what follows to the one around it.
        place = len(self.rows) - 1
        changed = True
        while changed and place > 0:
            row = self.rows[place]
            row.fits = self.facts.fitting(row.named, row.atoms)
            up = self.facts.lifted(row.named, row.atoms)
            place -= 1
            parent = self.rows[place]
            changed = (up & ~parent.atoms) != 0
            parent.atoms |= up

    def settle(self):
        # The numbers of the open parts that answer by now and did not when it was asked before.
        found = []
        for place in range(1, len(self.rows)):
            parent = self.rows[place - 1]
            row = self.rows[place]
            ahead = row.reached
            row.reached = self.gone_on(parent.reached, parent.reached_around, row.fits)
            row.reached_around = parent.reached_around | row.reached
            if row.reached & ~ahead & self.full:
                found.append(row.number)
        return found

    def newly_told(self):
        found = self.settle()
        kept = []
        for rest in self.rests:
            row = self.rows[rest[1]]
            if (row.reached & rest[2]) or (row.reached_around & rest[3]):
                found.append(rest[0])
            else:
                kept.append(rest)
        self.rests = kept
        return sorted(found)

    def end_row(self):
        row = self.rows.pop()
        place = len(self.rows)
        rests = list(self.rests)
        if not row.reached & self.full:
            rests.append((row.number, place, self.full, 0))
        kept = []
        for rest in sorted(rests):
            moved = self.moved_out(rest, row) if rest[1] == place else rest
            if moved[2] or moved[3]:
                kept.append(moved)
        self.rests = kept

    def moved_out(self, rest, row):
        # The row closes, and what it fits is settled: what a rest needed of it becomes what it needs further out.
        parent = self.rows[-1]
        steps = ((rest[2] | rest[3]) >> 1) & row.fits
        own = steps & ~self.facts.inner & parent.hoped
        around = ((steps & self.facts.inner) | rest[3]) & parent.hoped_around
        return (rest[0], rest[1] - 1, own, around)

    def waits(self):
        numbers = [rest[0] for rest in self.rests]
        for row in self.rows:
            if row.hoped & ~row.reached & self.full:
                numbers.append(row.number)
        return sorted(numbers)


def top_row():
    row = Row(-1, 0, 0)
    row.reached = 1
    row.reached_around = 1
    row.hoped = 1
    row.hoped_around = 1
    return row


def able_steps(question):
    # The steps whose wish can hold of some part.
    able = 0
    for place, step in enumerate(question):
        if can_hold(step[2]):
            able |= 1 << place
    return able
