"""What the tests share: makers of papers and questions, a plain reading of the document, and guards."""

import copy
import random
import signal
from contextlib import contextmanager

ANY = ("any",)
NAMES = ["a", "b", "ab"]
TEXTS = ["", "x", "xy", "a", "*"]


class Node:
    def __init__(self, name, number):
        self.name = name
        self.number = number
        self.texts = []
        self.own = []

    def within(self):
        found = []
        for node in self.own:
            found.append(node)
            found.extend(node.within())
        return found


def noded(paper):
    count = [0]

    def made(part):
        node = Node(part[0], count[0])
        count[0] += 1
        for piece in part[1]:
            if isinstance(piece, str):
                node.texts.append(piece)
            else:
                node.own.append(made(piece))
        return node

    return made(paper)


# Points [8], [9] and [10] word for word, with no thought of how long it takes.

def wished(node, wish):
    if wish[0] == "any":
        return True
    if wish[0] == "text":
        return any(text == wish[1] for text in node.texts)
    if wish[0] == "has":
        return bool(reached(node, wish[1]))
    if wish[0] == "both":
        return all(wished(node, other) for other in wish[1])
    return any(wished(node, other) for other in wish[1])


def reached(node, steps):
    if not steps:
        return {node.number}
    way, name, wish = steps[0]
    found = set()
    for other in node.own if way == "own" else node.within():
        if name in ("*", other.name) and wished(other, wish):
            found |= reached(other, steps[1:])
    return found


def slow_holds(part, wish):
    return wished(noded(part), wish)


def slow_answers(paper, question):
    top = Node("", -1)
    top.own.append(noded(paper))
    return sorted(reached(top, question))


class Maker:
    """Papers, rows of signs and questions by a fixed seed."""

    def __init__(self, seed):
        self.random = random.Random(seed)

    def name(self):
        return self.random.choice(NAMES)

    def text(self):
        return self.random.choice(TEXTS)

    def signs(self, most):
        """The signs of a paper of at most `most` parts."""
        signs = [("open", self.name())]
        depth = 1
        for _ in range(self.random.randrange(most)):
            lot = self.random.randrange(7)
            if lot < 3:
                signs.append(("open", self.name()))
                depth += 1
            elif lot < 5:
                signs.append(("text", self.text()))
            elif depth > 1:
                signs.append(("close",))
                depth -= 1
        return signs + [("close",)] * depth

    def wish(self, deep):
        lot = self.random.randrange(6 if deep > 0 else 3)
        if lot == 0:
            return ANY
        if lot < 3:
            return ("text", self.text())
        if lot == 3:
            return ("has", self.steps(deep - 1))
        wishes = [self.wish(deep - 1) for _ in range(self.random.randrange(4))]
        return ("both" if lot == 4 else "one", wishes)

    def steps(self, deep):
        return [self.step(deep) for _ in range(self.random.randrange(1, 4))]

    def step(self, deep):
        name = self.random.choice(NAMES + ["*", "*"])
        wish = self.wish(deep) if self.random.randrange(2) else ANY
        return (self.random.choice(["own", "inner"]), name, wish)


def open_at_end(signs):
    """How many parts are open behind the signs."""
    opened = len([sign for sign in signs if sign[0] == "open"])
    closed = len([sign for sign in signs if sign[0] == "close"])
    return opened - closed


def count_and_depth(thing):
    """How many tuples a question, a step or a wish has, and how deep they nest."""
    if isinstance(thing, str):
        return 0, 0
    pairs = [count_and_depth(piece) for piece in thing]
    here = 1 if isinstance(thing, tuple) else 0
    return sum(pair[0] for pair in pairs) + here, max((pair[1] for pair in pairs), default=0) + here


def lists_in(thing):
    """All the lists that stand in a thing, each as often as it stands there."""
    found = [thing] if isinstance(thing, list) else []
    if isinstance(thing, (list, tuple)):
        for piece in thing:
            found.extend(lists_in(piece))
    return found


def keeps_apart(case, call, *handed):
    """The call changes nothing handed in, shares no list with it, and tells no list at two places."""
    before = copy.deepcopy(handed)
    told = call(*handed)
    case.assertEqual(handed, before)
    told_lists = [id(one) for one in lists_in(told)]
    case.assertEqual(len(told_lists), len(set(told_lists)))
    case.assertFalse(set(told_lists) & {id(one) for one in lists_in(list(handed))})
    return told


def spoil(thing):
    """Changes every list in a thing."""
    for one in lists_in(thing):
        one.append("spoiled")


@contextmanager
def in_good_time(seconds=20):
    def stop(number, frame):
        raise AssertionError("not answered in good time")

    before = signal.signal(signal.SIGALRM, stop)
    signal.alarm(seconds)
    try:
        yield
    finally:
        signal.alarm(0)
        signal.signal(signal.SIGALRM, before)
