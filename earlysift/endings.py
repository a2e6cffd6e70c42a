"""Endings: signs by which a coming paper becomes a whole one, and by which a part that waits answers."""

from earlysift.facts import can_hold


def shortest_ending(coming):
    return ending_with(coming, {})


def ending_for(coming, number):
    # The number is that of a part that waits.
    return ending_with(coming, chain_fillings(coming, chain_end(coming, number)))


def ending_with(coming, fillings):
    # The open parts close from the innermost outwards, each behind what is still to come into it.
    signs = []
    for place in range(len(coming.rows) - 1, 0, -1):
        signs.extend(fillings.get(place, []))
        signs.append(("close",))
    return signs


def chain_end(coming, number):
    # A tuple (place, many): the part answers where the row at that place answers the first so many steps.
    for place, row in enumerate(coming.rows):
        if row.number == number:
            return (place, len(coming.facts.question))
    rest = [one for one in coming.rests if one[0] == number][0]
    place = rest[1]
    hoped = coming.rows[place].hoped & (rest[2] | rest[3])
    while not hoped:
        place -= 1
        hoped = coming.rows[place].hoped & rest[3]
    return (place, hoped.bit_length() - 1)


def chain_fillings(coming, end):
    # What is to come into which row, by its place, that the end's row answers its steps. From step to step the
    # chain goes outwards, so no row is filled twice.
    fillings = {}
    place = end[0]
    for many in range(end[1], 0, -1):
        step = coming.facts.question[many - 1]
        if not coming.rows[place].fits & (1 << (many - 1)):
            fillings[place] = filling(step[2])
        place = place_around(coming, place, step[0], many - 1)
    return fillings


def place_around(coming, place, way, many):
    # The place of a row from which, by that way, a part at the given place can go on behind so many steps.
    around = place - 1
    while way == "inner" and not coming.rows[around].hoped & (1 << many):
        around -= 1
    return around


def filling(wish):
    # Signs behind which the wish, one that can hold, holds of the part that they come into.
    if wish[0] == "any":
        return []
    if wish[0] == "text":
        return [("text", wish[1])]
    if wish[0] == "has":
        return steps_filling(wish[1])
    if wish[0] == "one":
        return filling([other for other in wish[1] if can_hold(other)][0])
    signs = []
    for other in wish[1]:
        signs.extend(filling(other))
    return signs


def steps_filling(steps):
    signs = []
    for step in reversed(steps):
        name = "a" if step[1] == "*" else step[1]
        signs = [("open", name)] + filling(step[2]) + signs + [("close",)]
    return signs
