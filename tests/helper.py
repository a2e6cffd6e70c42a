"""What the tests share: makers of papers and questions, a plain reading of the document, and guards."""

import copy
import random
import signal
from contextlib import contextmanager

from earlysift.papers import signs_of, stump

ANY = ("any",)
NAMES = ["a", "b", "ab"]
TEXTS = ["", "x", "xy", "a", "*"]
CLOSE = ("close",)


def opening(name):
    return ("open", name)


def text(words):
    return ("text", words)


def own(name, wish=ANY):
    return ("own", name, wish)


def inner(name, wish=ANY):
    return ("inner", name, wish)


def has(*steps):
    return ("has", list(steps))


def words(text):
    return ("text", text)


def both(*wishes):
    return ("both", list(wishes))


def one(*wishes):
    return ("one", list(wishes))


ALL = [inner("*")]


class Node:
    def __init__(self, name, number):
        self.name = name
        self.number = number
        self.texts = []
        self.own = []

    def within(self):
        found = []
        for node in self.own:
            found.append(node)
            found.extend(node.within())
        return found


def noded(paper):
    count = [0]

    def made(part):
        node = Node(part[0], count[0])
        count[0] += 1
        for piece in part[1]:
            if isinstance(piece, str):
                node.texts.append(piece)
            else:
                node.own.append(made(piece))
        return node

    return made(paper)


# Points [8], [9] and [10] word for word, with no thought of how long it takes.

def wished(node, wish):
    if wish[0] == "any":
        return True
    if wish[0] == "text":
        return any(text == wish[1] for text in node.texts)
    if wish[0] == "has":
        return bool(reached(node, wish[1]))
    if wish[0] == "both":
        return all(wished(node, other) for other in wish[1])
    return any(wished(node, other) for other in wish[1])


def reached(node, steps):
    if not steps:
        return {node.number}
    way, name, wish = steps[0]
    found = set()
    for other in node.own if way == "own" else node.within():
        if name in ("*", other.name) and wished(other, wish):
            found |= reached(other, steps[1:])
    return found


def slow_holds(part, wish):
    return wished(noded(part), wish)


def slow_answers(paper, question):
    top = Node("", -1)
    top.own.append(noded(paper))
    return sorted(reached(top, question))


class Maker:
    """Papers, rows of signs and questions by a fixed seed."""

    def __init__(self, seed):
        self.random = random.Random(seed)

    def name(self):
        return self.random.choice(NAMES)

    def text(self):
        return self.random.choice(TEXTS)

    def signs(self, most):
        """The signs of a paper of at most `most` parts."""
        signs = [("open", self.name())]
        depth = 1
        for _ in range(self.random.randrange(most)):
            lot = self.random.randrange(7)
            if lot < 3:
                signs.append(("open", self.name()))
                depth += 1
            elif lot < 5:
                signs.append(("text", self.text()))
            elif depth > 1:
                signs.append(("close",))
                depth -= 1
        return signs + [("close",)] * depth

    def wish(self, deep):
        lot = self.random.randrange(6 if deep > 0 else 3)
        if lot == 0:
            return ANY
        if lot < 3:
            return ("text", self.text())
        if lot == 3:
            return ("has", self.steps(deep - 1))
        wishes = [self.wish(deep - 1) for _ in range(self.random.randrange(4))]
        return ("both" if lot == 4 else "one", wishes)

    def steps(self, deep):
        return [self.step(deep) for _ in range(self.random.randrange(1, 4))]

    def step(self, deep):
        name = self.random.choice(NAMES + ["*", "*"])
        wish = self.wish(deep) if self.random.randrange(2) else ANY
        return (self.random.choice(["own", "inner"]), name, wish)


def deep_paper(deep, many):
    """A chain of tuples, `deep` of them, z the innermost; beside them leaves and texts, up to `many` parts."""
    part = ("z", ["end"])
    left = many - deep - 1
    for level in range(deep - 1, 0, -1):
        share = left // level
        left -= share
        beside = [("a", []) if number % 2 else "x" for number in range(share)]
        part = ("a", beside[: share // 2] + [part] + beside[share // 2:])
    return part


def depths_of(paper):
    depths, depth = [], 0
    for sign in signs_of(paper):
        if sign[0] == "open":
            depth += 1
            depths.append(depth)
        elif sign[0] == "close":
            depth -= 1
    return depths


def steps_within_steps(levels, name):
    if levels == 0:
        return [inner(name)]
    return [inner("*"), inner("*", has(*steps_within_steps(levels - 1, name)))]


def beginnings(signs):
    return [signs[:many] for many in range(1, len(signs) + 1)]


def ways_on(signs, most, names=("a", "b"), texts=("x",)):
    """Every row of signs that begins with these and goes on by at most so many more."""
    yield signs
    if most > 0 and open_at_end(signs) > 0:
        for sign in [opening(name) for name in names] + [text(one) for one in texts] + [CLOSE]:
            yield from ways_on(signs + [sign], most - 1, names, texts)


def pieces_of(steps):
    """All steps and wishes that stand in the steps."""
    found = []
    for step in steps:
        found.append(step)
        wishes = [step[2]]
        while wishes:
            wish = wishes.pop()
            found.append(wish)
            if wish[0] == "has":
                found.extend(pieces_of(wish[1]))
            elif wish[0] in ("both", "one"):
                wishes.extend(wish[1])
    return found


def steps_in(steps):
    return [piece for piece in pieces_of(steps) if len(piece) == 3]


def wishes_in(steps, kind):
    return [piece for piece in pieces_of(steps) if len(piece) < 3 and piece[0] == kind]


def within_bounds(question):
    """The bounds of [21] and [28], of both questions."""
    ones = wishes_in(question, "one")
    inners = [step for step in steps_in(question) if step[0] == "inner"]
    if len(inners) > 3 or len(ones) > 3 or stars_in(question) > 4:
        return False
    return all(len(wish[1]) <= 3 for wish in ones) and count_and_depth(question)[0] <= 40


def stars_in(question):
    return len([step for step in steps_in(question) if step[1] == "*"])


def small_papers(most, names=("a", "b")):
    """All papers of at most so many tuples, but for the order of parts."""
    trees = {0: [[]]}
    for many in range(1, most + 1):
        trees[many] = rows_of(many, [], trees, names)
    return [row[0] for many in range(1, most + 1) for row in trees[many] if len(row) == 1]


def rows_of(many, ahead, trees, names):
    """All rows of trees of so many tuples in all, none of them ahead, by kind, of the one that comes before it."""
    if many == 0:
        return [ahead]
    found = []
    for here in range(1, many + 1):
        for name in names:
            for within in trees[here - 1]:
                part = (name, within)
                if not ahead or kind_of(ahead[-1]) <= kind_of(part):
                    found.extend(rows_of(many - here, ahead + [part], trees, names))
    return found


def kind_of(part):
    return len(repr(part)), repr(part)


def leavings(question):
    """All that one leaving-out makes of a question: point [26] word for word."""
    found = []
    for place, (way, name, wish) in enumerate(question):
        for other in wish_leavings(wish):
            found.append(question[:place] + [(way, name, other)] + question[place + 1:])
    return found


def wish_leavings(wish):
    found = [] if wish == ANY else [ANY]
    if wish[0] == "has":
        found += [("has", steps) for steps in leavings(wish[1])]
        if len(wish[1]) >= 2:
            found.append(("has", wish[1][:-1]))
    if wish[0] in ("both", "one"):
        for place, inside in enumerate(wish[1]):
            if len(wish[1]) >= 2:
                found.append((wish[0], wish[1][:place] + wish[1][place + 1:]))
            for other in wish_leavings(inside):
                found.append((wish[0], wish[1][:place] + [other] + wish[1][place + 1:]))
    return found


def deep_steps(steps):
    """How deep parts may have to nest that the steps are answered from a part."""
    return max(place + 1 + deep_wish(step[2]) for place, step in enumerate(steps))


def deep_wish(wish):
    if wish[0] == "has":
        return deep_steps(wish[1])
    if wish[0] in ("both", "one"):
        return max([deep_wish(other) for other in wish[1]], default=0)
    return 0


def everything(question, deep):
    """Signs of parts of all the question's names, nested so deep, each with all the question's texts."""
    signs = [text(words) for words in sorted({wish[1] for wish in wishes_in(question, "text")})]
    if deep > 0:
        within = everything(question, deep - 1)
        for name in sorted({step[1].replace("*", "a") for step in steps_in(question)}):
            signs += [opening(name)] + within + [CLOSE]
    return signs


def most_of(signs, question, deep):
    """Wishes and steps never fall by what comes: what answers in any paper that begins with the signs answers in
    this one, where everything that the question can speak of comes into each open part."""
    signs = list(signs)
    for _ in range(open_at_end(signs)):
        signs += everything(question, deep) + [CLOSE]
    return signs


def check_ending(case, signs, ending):
    """It can come behind the signs, closes all that is open, and keeps the bounds."""
    case.assertIsInstance(ending, list)
    depth, deepest = 0, 0
    for sign in ending:
        case.assertIsInstance(sign, tuple)
        depth += {"open": 1, "text": 0, "close": -1}[sign[0]]
        deepest = max(deepest, depth)
    case.assertEqual(depth, -open_at_end(signs))
    case.assertLessEqual(len(ending), 2000)
    case.assertLessEqual(deepest, 60)
    whole = stump(signs + ending)
    case.assertEqual(signs_of(whole), signs + ending)
    return whole


def open_at_end(signs):
    """How many parts are open behind the signs."""
    opened = len([sign for sign in signs if sign[0] == "open"])
    closed = len([sign for sign in signs if sign[0] == "close"])
    return opened - closed


def count_and_depth(thing):
    """How many tuples a question, a step or a wish has, and how deep they nest."""
    if isinstance(thing, str):
        return 0, 0
    pairs = [count_and_depth(piece) for piece in thing]
    here = 1 if isinstance(thing, tuple) else 0
    return sum(pair[0] for pair in pairs) + here, max((pair[1] for pair in pairs), default=0) + here


def lists_in(thing):
    """All the lists that stand in a thing, each as often as it stands there."""
    found = [thing] if isinstance(thing, list) else []
    if isinstance(thing, (list, tuple)):
        for piece in thing:
            found.extend(lists_in(piece))
    return found


def keeps_apart(case, call, *handed):
    """The call changes nothing handed in, shares no list with it, and tells no list at two places."""
    before = copy.deepcopy(handed)
    told = call(*handed)
    case.assertEqual(handed, before)
    told_lists = [id(one) for one in lists_in(told)]
    case.assertEqual(len(told_lists), len(set(told_lists)))
    case.assertFalse(set(told_lists) & {id(one) for one in lists_in(list(handed))})
    return told


def spoil(thing):
    """Changes every list in a thing."""
    for one in lists_in(thing):
        one.append("spoiled")


@contextmanager
def in_good_time(seconds=20):
    def stop(number, frame):
        raise AssertionError("not answered in good time")

    before = signal.signal(signal.SIGALRM, stop)
    signal.alarm(seconds)
    try:
        yield
    finally:
        signal.alarm(0)
        signal.signal(signal.SIGALRM, before)
