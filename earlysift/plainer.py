"""Plainer questions: what can be left out of a question so that the same parts answer."""

from earlysift.facts import copied
from earlysift.parting import parting


def alike(one, other):
    return parting(one, other) is None and parting(other, one) is None


def plainer(question):
    plain = question
    fewer = first_alike(plain)
    while fewer is not None:
        plain = fewer
        fewer = first_alike(plain)
    return copied(plain)


def first_alike(question):
    for fewer in leaving_outs(question):
        if alike(fewer, question):
            return fewer
    return None


def leaving_outs(steps):
    # All that one leaving-out can make of the steps' wishes.
    found = []
    for place, step in enumerate(steps):
        for wish in wish_leaving_outs(step[2]):
            found.append(with_one(steps, place, (step[0], step[1], wish)))
    return found


def wish_leaving_outs(wish):
    if wish[0] == "any":
        return []
    found = [("any",)]
    if wish[0] == "has":
        if len(wish[1]) > 1:
            found.append(("has", wish[1][:-1]))
        found.extend([("has", steps) for steps in leaving_outs(wish[1])])
    if wish[0] in ("both", "one"):
        found.extend([(wish[0], wishes) for wishes in list_leaving_outs(wish[1])])
    return found


def list_leaving_outs(wishes):
    found = []
    if len(wishes) > 1:
        found.extend([wishes[:place] + wishes[place + 1:] for place in range(len(wishes))])
    for place, wish in enumerate(wishes):
        found.extend([with_one(wishes, place, other) for other in wish_leaving_outs(wish)])
    return found


def with_one(row, place, one):
    # The row with another one at this place; what is handed in stays as it is.
    return row[:place] + [one] + row[place + 1:]
