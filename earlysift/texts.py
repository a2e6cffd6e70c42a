"""Questions as text: each written as one line, and read from it."""

from earlysift.errors import NoText

MARKS = {"both": "&", "one": "+"}
KINDS = {"&": "both", "+": "one"}
# The percent sign, the one sign from the blank to ~ that is in no text.
PERCENT = 37


def shown(question):
    return "".join([shown_step(step) for step in question])


def shown_step(step):
    line = ("/" if step[0] == "own" else "//") + step[1]
    if step[2][0] == "any":
        return line
    return line + "[" + shown_wish(step[2]) + "]"


def shown_wish(wish):
    if wish[0] == "any":
        return "any"
    if wish[0] == "text":
        return '"' + wish[1].replace("\\", "\\\\").replace('"', "\\q") + '"'
    if wish[0] == "has":
        return shown(wish[1])
    mark = MARKS[wish[0]]
    lines = [shown_wish(other) for other in wish[1]]
    if len(lines) == 0:
        return "(" + mark + ")"
    if len(lines) == 1:
        return "(" + mark + " " + lines[0] + ")"
    between = " " + mark + " "
    return "(" + between.join(lines) + ")"


def read(line):
    reader = Reader(line)
    question = reader.read_steps()
    if reader.at < len(line):
        raise NoText(reader.at)
    return question


class Reader:
    # Each sign is passed only where some written line goes on with it: so a line is refused just where it stands.

    def __init__(self, line):
        self.line = line
        self.at = 0

    def ahead(self):
        # The sign ahead, or behind the last one a text of no signs, which is none of those that may come.
        return self.line[self.at:self.at + 1]

    def pass_over(self, signs):
        for sign in signs:
            if self.ahead() != sign:
                raise NoText(self.at)
            self.at += 1

    def read_steps(self):
        steps = [self.read_step()]
        while self.ahead() == "/":
            steps.append(self.read_step())
        return steps

    def read_step(self):
        self.pass_over("/")
        way = "own"
        if self.ahead() == "/":
            self.pass_over("/")
            way = "inner"
        name = self.read_name()
        if self.ahead() != "[":
            return (way, name, ("any",))
        self.pass_over("[")
        if self.ahead() == "a":
            # As a step's wish any is not written.
            raise NoText(self.at)
        wish = self.read_wish()
        self.pass_over("]")
        return (way, name, wish)

    def read_name(self):
        if self.ahead() == "*":
            self.pass_over("*")
            return "*"
        start = self.at
        while "a" <= self.ahead() <= "z":
            self.at += 1
        if self.at == start:
            raise NoText(self.at)
        return self.line[start:self.at]

    def read_wish(self):
        sign = self.ahead()
        if sign == "/":
            return ("has", self.read_steps())
        if sign == "(":
            return self.read_list()
        if sign == '"':
            return ("text", self.read_text())
        self.pass_over("any")
        return ("any",)

    def read_list(self):
        self.pass_over("(")
        if self.ahead() in KINDS:
            return self.read_short_list()
        wishes = [self.read_wish()]
        self.pass_over(" ")
        mark = self.read_mark()
        self.pass_over(" ")
        wishes.append(self.read_wish())
        while self.ahead() == " ":
            self.pass_over(" " + mark + " ")
            wishes.append(self.read_wish())
        self.pass_over(")")
        return (KINDS[mark], wishes)

    def read_short_list(self):
        # Of no wishes, or of a single one.
        kind = KINDS[self.read_mark()]
        wishes = []
        if self.ahead() == " ":
            self.pass_over(" ")
            wishes.append(self.read_wish())
        self.pass_over(")")
        return (kind, wishes)

    def read_mark(self):
        mark = self.ahead()
        if mark not in KINDS:
            raise NoText(self.at)
        self.pass_over(mark)
        return mark

    def read_text(self):
        self.pass_over('"')
        pieces = []
        while self.ahead() != '"':
            pieces.append(self.read_text_sign())
        self.pass_over('"')
        return "".join(pieces)

    def read_text_sign(self):
        sign = self.ahead()
        if not (" " <= sign <= "~") or ord(sign) == PERCENT:
            raise NoText(self.at)
        self.at += 1
        if sign != "\\":
            return sign
        if self.ahead() == "\\":
            self.pass_over("\\")
            return "\\"
        self.pass_over("q")
        return '"'
