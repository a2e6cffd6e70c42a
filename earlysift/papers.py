"""Papers, their signs, and the stumps of rows of signs."""

from earlysift.errors import NoSign


class Layout:
    # One entry a tuple, by its number. A part's parent has a smaller number than the part, so a walk of the
    # numbers, up or down, takes the place of a recursion, which deep papers would carry too far.

    def __init__(self):
        self.names = []
        self.parents = []
        self.texts = []


def signs_of(part):
    signs = []
    # What is still to be written, the next one last; None stands for a close.
    rest = [part]
    while rest:
        piece = rest.pop()
        if piece is None:
            signs.append(("close",))
        elif isinstance(piece, str):
            signs.append(("text", piece))
        else:
            signs.append(("open", piece[0]))
            rest.append(None)
            rest.extend(list(reversed(piece[1])))
    return signs


def can_come(sign, within, begun):
    # within: a part is open; begun: the first part has opened.
    if sign[0] == "open":
        return within or not begun
    return within


def stump(signs):
    top = []
    # The lists of the open parts, the innermost last, beneath them the one that the paper comes into.
    rows = [top]
    for at, sign in enumerate(signs):
        if not can_come(sign, len(rows) > 1, len(top) > 0):
            raise NoSign(at)
        if sign[0] == "open":
            own = []
            rows[-1].append((sign[1], own))
            rows.append(own)
        elif sign[0] == "text":
            rows[-1].append(sign[1])
        else:
            rows.pop()
    return top[0]


def many_parts(paper):
    return len([sign for sign in signs_of(paper) if sign[0] == "open"])


def laid_out(paper):
    layout = Layout()
    row = []
    for sign in signs_of(paper):
        if sign[0] == "open":
            # The paper itself has no parent: -1 is no part's number.
            layout.parents.append(row[-1] if row else -1)
            row.append(len(layout.names))
            layout.names.append(sign[1])
            layout.texts.append([])
        elif sign[0] == "text":
            layout.texts[row[-1]].append(sign[1])
        else:
            row.pop()
    return layout
