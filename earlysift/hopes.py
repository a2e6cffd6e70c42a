"""Hopes: whether some part of a coming paper answers, opened by now or not, and an ending by which one does."""

from earlysift.endings import chain_fillings, ending_for, ending_with, place_around, shortest_ending, steps_filling


def outlook_of(coming, is_sure):
    # It is sure where a part was told: the paper that the shortest ending makes is one of those that may come.
    if is_sure:
        return "sure"
    if coming.waits() or new_start(coming) is not None:
        return "open"
    return "lost"


def hope_of(coming, is_sure):
    # An ending behind which some part answers, None where there is none.
    if is_sure:
        return shortest_ending(coming)
    waits = coming.waits()
    if waits:
        return ending_for(coming, waits[0])
    start = new_start(coming)
    if start is None:
        return None
    return ending_by_new_parts(coming, start[0], start[1])


def new_start(coming):
    # A tuple (place, many): parts that open within the row at that place can answer the steps behind the first so
    # many, and the chain up to there can be had from that row or one around it. None where there is no such row.
    ends = open_ends(coming)
    for place in range(len(coming.rows) - 1, 0, -1):
        row = coming.rows[place]
        starts = (row.hoped | (row.hoped_around & coming.facts.inner)) & ends
        if starts:
            return (place, starts.bit_length() - 1)
    return None


def open_ends(coming):
    # Bit k where new parts can answer all steps behind the first k, one at least.
    ends = 0
    place = len(coming.facts.question) - 1
    while place >= 0 and coming.able & (1 << place):
        ends |= 1 << place
        place -= 1
    return ends


def ending_by_new_parts(coming, place, many):
    steps = coming.facts.question[many:]
    start = place_around(coming, place + 1, steps[0][0], many)
    fillings = chain_fillings(coming, (start, many))
    fillings[place] = fillings.get(place, []) + steps_filling(steps)
    return ending_with(coming, fillings)
