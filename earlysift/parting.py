"""Parting: whether a question lies within another one, or a paper that shows that it does not."""

from earlysift.models import MARK, Judge, models
from earlysift.papers import stump


def parting(one, other):
    for facts, signs in models(Judge(other), one).items():
        # Bit 0 is the fact of the other question's first step: from there on the marked part answers it.
        if not facts & 1:
            return paper_and_number(signs)
    return None


def paper_and_number(signs):
    ahead = signs[:signs.index(MARK)]
    number = len([sign for sign in ahead if sign[0] == "open"]) - 1
    return (stump([sign for sign in signs if sign != MARK]), number)
