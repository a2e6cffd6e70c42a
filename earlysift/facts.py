"""Facts: what texts and parts within a part settle of it, each fact a bit of a whole number."""

# What a wish asks of a part is kept as a tuple (need, choices): the facts that must all stand, and a list with, for
# each one among the wishes, the list of what each of its wishes asks.


class Facts:
    # Bit k, for each step k of the question itself, names that step. Each step of a has takes a bit too: as a fact
    # it stands of a part from which some part answers that step and those behind it. So does each text: it stands
    # of a part that has the text as an own part. Since parts only gain texts and parts, facts never fall.

    def __init__(self, question):
        self.question = copied(question)
        self.bits = 0
        self.by_name = {}
        self.by_text = {}
        self.starred = 0
        self.stars = 0
        self.inner = 0
        self.leads = []
        self.enter(self.question)
        self.asks = [self.asked(step[2]) for step in self.question]

    def new_bit(self):
        self.bits += 1
        return 1 << (self.bits - 1)

    def enter(self, steps):
        # The steps of a row take their bits together, as each but the last leans on the one behind it.
        return [self.enter_step(step) for step in steps]

    def enter_step(self, step):
        bit = self.new_bit()
        if step[0] == "inner":
            self.inner |= bit
        if step[1] == "*":
            self.starred |= bit
            self.stars += 1
        else:
            self.by_name[step[1]] = self.by_name.get(step[1], 0) | bit
        return bit

    def enter_text(self, text):
        if text not in self.by_text:
            self.by_text[text] = self.new_bit()
        return self.by_text[text]

    def enter_has(self, steps):
        bits = self.enter(steps)
        self.lead([self.asked(step[2]) for step in steps], bits, 0)
        return bits[0]

    def lead(self, asks, bits, end):
        # A part gives its surroundings the fact of a step where it meets the step's ask and the steps behind it
        # can be gone on from there, the last one's part having the facts of end.
        follows = bits[1:] + [end]
        for ask, bit, follow in zip(asks, bits, follows):
            self.leads.append((bit, (ask[0] | follow, ask[1])))

    def asked(self, wish):
        if wish[0] == "any":
            return (0, [])
        if wish[0] == "text":
            return (self.enter_text(wish[1]), [])
        if wish[0] == "has":
            return (self.enter_has(wish[1]), [])
        asks = [self.asked(other) for other in wish[1]]
        if wish[0] == "one":
            return (0, [asks])
        return joined_asks(asks)

    def steps_for(self, name):
        # The steps, wherever they stand, that a part of this name can fit.
        return self.starred | self.by_name.get(name, 0)

    def text_fact(self, text):
        return self.by_text.get(text, 0)

    def lifted(self, named, atoms):
        # The facts that a part with these facts gives to the part that it is an own part of.
        up = atoms & self.inner
        for bit, ask in self.leads:
            if (named & bit) and meets(ask, atoms):
                up |= bit
        return up

    def fitting(self, named, atoms):
        # The steps of the question itself that a part with these facts fits.
        fits = 0
        for place, ask in enumerate(self.asks):
            bit = 1 << place
            if (named & bit) and meets(ask, atoms):
                fits |= bit
        return fits


def joined_asks(asks):
    need = 0
    choices = []
    for ask in asks:
        need |= ask[0]
        choices.extend(ask[1])
    return (need, choices)


def meets(ask, atoms):
    if (atoms & ask[0]) != ask[0]:
        return False
    return all([any([meets(other, atoms) for other in choice]) for choice in ask[1]])


def can_hold(wish):
    # Whether there is a part of which the wish holds. A part that is open can still become like it, whatever it
    # has so far; and all wishes that can hold can hold of it together.
    if wish[0] == "has":
        return all([can_hold(step[2]) for step in wish[1]])
    if wish[0] == "both":
        return all([can_hold(other) for other in wish[1]])
    if wish[0] == "one":
        return any([can_hold(other) for other in wish[1]])
    return True


def copied(steps):
    return [(step[0], step[1], copied_wish(step[2])) for step in steps]


def copied_wish(wish):
    if wish[0] == "has":
        return ("has", copied(wish[1]))
    if wish[0] in ("both", "one"):
        return (wish[0], [copied_wish(other) for other in wish[1]])
    return wish
