"""Models: the papers in which a part answers a question by no more than it must, judged by a second question."""

from earlysift.facts import Facts

LETTERS = "abcdefghijklmnopqrstuvwxyz"
# Stands among the signs of a model in the part that answers; it is no sign of a paper.
MARK = ("mark",)

# Ways are a dict: for each choice of facts of the second question that something can give to the part that it
# comes into, the signs by which it does. The fewer facts, the sooner the second question fails; so of all choices
# only the least are kept, those that have no other's facts in full.


class Judge:
    # The second question's facts, the question itself asked as if it were a has: from the part whose only own part
    # is the paper, for a part that bears the mark.

    def __init__(self, question):
        self.facts = Facts(question)
        self.mark = self.facts.new_bit()
        bits = [1 << place for place in range(len(question))]
        self.facts.lead(self.facts.asks, bits, self.mark)
        self.fresh = fresh_name(self.facts)
        # Where an inner step passes more parts of a fresh name than this, the second question cannot tell how many:
        # only its steps of any name can stand at them, and not as many as these one right behind the other.
        self.longest = self.facts.stars + 1


def fresh_name(facts):
    # Parts that may have any name take one that the second question does not name.
    names = list(LETTERS)
    for first in LETTERS:
        names.extend([first + second for second in LETTERS])
    return [name for name in names if name not in facts.by_name][0]


def models(judge, question):
    # The ways of a paper in which a part answers the question, into the part whose only own part is the paper.
    return steps_ways(judge, question, {judge.mark: (MARK,)})


def steps_ways(judge, steps, inmost):
    ways = inmost
    for step in reversed(steps):
        # What leads on to the mark comes first, so that just the parts around the mark open ahead of it.
        inside = joined(ways, wish_ways(judge, step[2]))
        ways = step_ways(judge, step, inside)
    return ways


def step_ways(judge, step, inside):
    name = judge.fresh if step[1] == "*" else step[1]
    layer = wrapped(judge, name, inside)
    if step[0] == "own":
        return layer
    found = dict(layer)
    for turn in range(judge.longest):
        layer = wrapped(judge, judge.fresh, layer)
        found = merged([found, layer])
    return found


def wrapped(judge, name, inside):
    named = judge.facts.steps_for(name)
    ways = {}
    for atoms, signs in inside.items():
        up = judge.facts.lifted(named, atoms)
        if up not in ways:
            ways[up] = (("open", name),) + signs + (("close",),)
    return least(ways)


def wish_ways(judge, wish):
    if wish[0] == "any":
        return {0: ()}
    if wish[0] == "text":
        return {judge.facts.text_fact(wish[1]): (("text", wish[1]),)}
    if wish[0] == "has":
        return steps_ways(judge, wish[1], {0: ()})
    rows = [wish_ways(judge, other) for other in wish[1]]
    if wish[0] == "one":
        return merged(rows)
    ways = {0: ()}
    for row in rows:
        ways = joined(ways, row)
    return ways


def merged(rows):
    ways = {}
    for row in rows:
        for atoms, signs in row.items():
            if atoms not in ways:
                ways[atoms] = signs
    return least(ways)


def joined(ones, others):
    ways = {}
    for one, signs in ones.items():
        for other, further in others.items():
            if (one | other) not in ways:
                ways[one | other] = signs + further
    return least(ways)


def least(ways):
    kept = {}
    for atoms, signs in ways.items():
        if not any([other != atoms and (other & atoms) == other for other in ways]):
            kept[atoms] = signs
    return kept
