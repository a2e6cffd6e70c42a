"""Plain answers: what holds of a part, and which parts of a whole paper answer a question."""

from earlysift.papers import laid_out

# Marks are lists of truths, one a part, by the parts' numbers. Each wish and each step is asked once of all the
# parts together: asked part by part, steps within steps would be asked again and again for the same part.


def holds(part, wish):
    return wish_marks(laid_out(part), wish)[0]


def answers(paper, question):
    # The part whose only own part is the paper takes number 0, so the numbers of the paper lie one higher here.
    layout = laid_out(("", [paper]))
    marks = [number == 0 for number in range(len(layout.names))]
    for step in question:
        marks = both_marks(below_marks(layout, step[0], marks), fit_marks(layout, step))
    return [number - 1 for number, mark in enumerate(marks) if mark]


def wish_marks(layout, wish):
    if wish[0] == "any":
        return [True for name in layout.names]
    if wish[0] == "text":
        return [wish[1] in own for own in layout.texts]
    if wish[0] == "has":
        return start_marks(layout, wish[1])
    rows = [wish_marks(layout, inner) for inner in wish[1]]
    numbers = list(range(len(layout.names)))
    if wish[0] == "both":
        return [all([row[number] for row in rows]) for number in numbers]
    return [any([row[number] for row in rows]) for number in numbers]


def start_marks(layout, steps):
    # The parts from which some part answers the steps, found from the last step back.
    marks = [True for name in layout.names]
    for step in reversed(steps):
        marks = above_marks(layout, step[0], both_marks(marks, fit_marks(layout, step)))
    return marks


def fit_marks(layout, step):
    # The parts that have the step's name and of which its wish holds.
    named = [step[1] == "*" or step[1] == name for name in layout.names]
    return both_marks(named, wish_marks(layout, step[2]))


def both_marks(ones, others):
    return [one and other for one, other in zip(ones, others)]


def below_marks(layout, way, marks):
    # The parts that are own parts of a marked part, or stand within one.
    below = [False for mark in marks]
    for number in range(1, len(marks)):
        parent = layout.parents[number]
        below[number] = marks[parent] or (way == "inner" and below[parent])
    return below


def above_marks(layout, way, marks):
    # The parts that have a marked part as an own part, or within them.
    above = [False for mark in marks]
    for number in range(len(marks) - 1, 0, -1):
        if marks[number] or (way == "inner" and above[number]):
            above[layout.parents[number]] = True
    return above
