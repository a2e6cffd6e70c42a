import unittest

from earlysift.errors import Late, NoPart, NoSign, NoText, SiftError, Taken
from earlysift.texts import read, shown
from helper import ANY, Maker, both, count_and_depth, has, in_good_time, inner, keeps_apart, one, own, spoil, words

PERCENT = "%"
PLAIN = [chr(code) for code in range(32, 127) if chr(code) not in '"\\' + PERCENT]
LETTERS = "abcdefghijklmnopqrstuvwxyz"

# The form of point [18], rule by rule: each name stands for one of its rows; other texts stand for their signs.
RULES = {
    "QUESTION": [["STEP"], ["STEP", "QUESTION"]],
    "STEP": [["WAY", "NAME"], ["WAY", "NAME", "[", "WRITTEN", "]"]],
    "WAY": [["/"], ["/", "/"]],
    "NAME": [["*"], ["WORD"]],
    "WORD": [["LETTER"], ["LETTER", "WORD"]],
    "LETTER": [[letter] for letter in LETTERS],
    "WISH": [["a", "n", "y"], ["WRITTEN"]],
    "WRITTEN": [['"', "TEXT"], ["QUESTION"], ["(", "LIST"]],
    "TEXT": [['"'], ["SIGN", "TEXT"]],
    "SIGN": [["\\", "q"], ["\\", "\\"]] + [[sign] for sign in PLAIN],
    "LIST": [["MARK", ")"], ["MARK", " ", "WISH", ")"], ["WISH", "BOTH"], ["WISH", "ONE"]],
    "MARK": [["&"], ["+"]],
    "BOTH": [[" ", "&", " ", "WISH", ")"], [" ", "&", " ", "WISH", "BOTH"]],
    "ONE": [[" ", "+", " ", "WISH", ")"], [" ", "+", " ", "WISH", "ONE"]],
}


def judged(line):
    """Whether a line is written so, and how many of its signs are the beginning of one that is: all the rules that
    can stand at a place are gone along side by side."""
    charts = [grown({("TOP", ("QUESTION",), 0, 0)}, [])]
    for at, sign in enumerate(line):
        stepped = {(name, row, place + 1, start) for name, row, place, start in charts[-1]
                   if place < len(row) and row[place] == sign}
        if not stepped:
            return False, at
        charts.append(grown(stepped, charts))
    return ("TOP", ("QUESTION",), 1, 0) in charts[-1], len(line)


def grown(chart, charts):
    chart, at = set(chart), len(charts)
    rest = list(chart)
    while rest:
        name, row, place, start = rest.pop()
        if place == len(row):
            around = chart if start == at else charts[start]
            new = [(other, long, there + 1, begun) for other, long, there, begun in around
                   if there < len(long) and long[there] == name]
        elif row[place] in RULES:
            new = [(row[place], tuple(rule), 0, at) for rule in RULES[row[place]]]
        else:
            new = []
        for item in new:
            if item not in chart:
                chart.add(item)
                rest.append(item)
    return chart


QUESTIONS = [
    ([own("a")], "/a"),
    ([inner("a")], "//a"),
    ([own("*")], "/*"),
    ([inner("*")], "//*"),
    ([own("a"), inner("b"), own("*"), inner("*"), own("any")], "/a//b/*//*/any"),
    ([own("abcdefghijkl")], "/abcdefghijkl"),
    ([own("mnopqrstuvwx"), inner("yz")], "/mnopqrstuvwx//yz"),
    ([own("zyxwvutsrqpo", has(own("z")))], "/zyxwvutsrqpo[/z]"),
    ([own("a", words("x"))], '/a["x"]'),
    ([own("a", words(""))], '/a[""]'),
    ([own("a", words(" "))], '/a[" "]'),
    ([own("a", words('"'))], '/a["\\q"]'),
    ([own("a", words("\\"))], '/a["\\\\"]'),
    ([own("a", words("\\q"))], '/a["\\\\q"]'),
    ([own("a", words('\\"'))], '/a["\\\\\\q"]'),
    ([own("a", words('"\\'))], '/a["\\q\\\\"]'),
    ([own("a", words('q"q\\\\ (& + any)]'))], '/a["q\\qq\\\\\\\\ (& + any)]"]'),
    ([own("a", has(own("b")))], "/a[/b]"),
    ([own("a", has(inner("b"), own("*")))], "/a[//b/*]"),
    ([own("a", has(own("b", has(own("c"))), own("d"))), own("e")], "/a[/b[/c]/d]/e"),
    ([own("a", both())], "/a[(&)]"),
    ([own("a", one())], "/a[(+)]"),
    ([own("a", both(ANY))], "/a[(& any)]"),
    ([own("a", one(ANY))], "/a[(+ any)]"),
    ([own("a", both(ANY, ANY))], "/a[(any & any)]"),
    ([own("a", one(ANY, words("x")))], '/a[(any + "x")]'),
    ([own("a", both(words("x"), has(own("b")), one()))], '/a[("x" & /b & (+))]'),
    ([own("a", one(words("x"), has(own("b"), inner("c")), both(), ANY))], '/a[("x" + /b//c + (&) + any)]'),
    ([own("a", both(both(), both(both()), both(both(), both())))], "/a[((&) & (& (&)) & ((&) & (&)))]"),
    ([own("a", one(both(ANY, one(ANY)), has(own("b", one()))))], "/a[((any & (+ any)) + /b[(+)])]"),
    ([own("a", both(has(own("b", words(")")))))], '/a[(& /b[")"])]'),
    ([own("a", has(own("any", both(ANY))))], "/a[/any[(& any)]]"),
]


class Shown(unittest.TestCase):
    """[18]"""

    def test_each_sort_of_step_and_wish(self):
        for question, line in QUESTIONS:
            self.assertEqual(keeps_apart(self, shown, question), line)

    def test_what_is_written_keeps_to_the_rules(self):
        for seed in range(200):
            line = shown(Maker(seed).steps(2))
            if len(line) < 80:
                self.assertEqual(judged(line), (True, len(line)), line)

    def test_all_signs_of_texts(self):
        signs = "".join(chr(code) for code in range(32, 127) if chr(code) != PERCENT)
        for text in [signs[:47], signs[47:], "\\" * 60, '"' * 60, " " * 60]:
            self.assertLessEqual(len(text), 60)
            question = [own("a", words(text))]
            self.assertEqual(shown(question), '/a["' + text.replace("\\", "\\\\").replace('"', "\\q") + '"]')
            self.assertEqual(read(shown(question)), question)


class Read(unittest.TestCase):
    """[19]"""

    def refused(self, line, at):
        with self.assertRaises(NoText) as caught:
            read(line)
        self.assertEqual(caught.exception.at, at, line)
        self.assertIs(type(caught.exception.at), int)
        self.assertIsInstance(caught.exception, SiftError)
        for other in (NoSign, NoPart, Taken, Late):
            self.assertNotIsInstance(caught.exception, other)

    def held(self, line):
        """What read makes of a line, against the rules."""
        written, at = judged(line)
        if written:
            self.assertEqual(shown(read(line)), line)
        else:
            self.refused(line, at)

    def test_what_is_written_is_read_to_the_same_question(self):
        for question, line in QUESTIONS:
            self.assertEqual(keeps_apart(self, read, line), question)
        for seed in range(400):
            question = Maker(seed).steps(3)
            self.assertEqual(keeps_apart(self, read, shown(question)), question)

    def test_kinds(self):
        question = read('/a[("x" & /b)]')
        self.assertIs(type(question), list)
        self.assertIs(type(question[0]), tuple)
        self.assertIs(type(question[0][2][1]), list)
        self.assertIs(type(question[0][2][1][1][1]), list)

    def test_a_line_read_twice(self):
        line = '/a[("x" & /b)]/c'
        told = read(line)
        spoil(told)
        self.assertEqual(read(line), [own("a", both(words("x"), has(own("b")))), own("c")])

    def test_the_lines_of_the_point(self):
        for line, at in [
            ("/a[any]", 3), ("/a[(any)]", 7), ("///a", 2), ("/a*", 2), ("a", 0), ("", 0), ("/a/", 3),
        ]:
            self.refused(line, at)
            self.assertEqual(judged(line), (False, at))

    def test_other_lines(self):
        for line, at in [
            ("/", 1), ("//", 2), ("/a[", 3), ("/a[]", 3), ("/a[[", 3), ("/a]", 2), ("/a[/b", 5), ("/a[/b]]", 6),
            ("/a[/b][/c]", 6), ("/A", 1), ("/`", 1), ("/z{", 2), ("/a1", 2), ("/a b", 2),
            (" /a", 0), ("/a ", 2), ("/a\n", 2), ("/**", 2),
            ("/*a", 2), ("/a[(", 4), ("/a[()]", 4), ("/a[(&", 5), ("/a[(&)", 6), ("/a[(& )]", 6), ("/a[(&any)]", 5),
            ("/a[(& any", 9), ("/a[(& any & any)]", 9), ("/a[(any & any + any)]", 14), ("/a[(any  & any)]", 8),
            ("/a[(any& any)]", 7), ("/a[(any &any)]", 9), ("/a[(any & )]", 10), ("/a[(any - any)]", 8),
            ("/a[(any & any )]", 14), ("/a[(an)]", 6), ("/a[(a", 5), ("/a[(b", 4), ("/a[( any & any)]", 4),
            ('/a["', 4), ('/a["x', 5), ('/a["x"', 6), ('/a["x"x]', 6), ('/a["\\', 5), ('/a["\\x"]', 5),
            ('/a["\\"]', 5), ("/a['x']", 3), ("/a[x]", 3), ("/a[an]", 3), ('/a["' + PERCENT + '"]', 4),
            ('/a["x' + PERCENT + '"]', 5), ("/" + PERCENT, 1), ('/a["\t"]', 4), ('/a["\x7f"]', 4), ('/a["\u00e9"]', 4),
            ("/\u00e9", 1), ("/a[(+)+]", 6), ("/a[(&) & (&)]", 6), ("/a[*]", 3), ("/a[/b & /c]", 5), ("/a/[", 3),
            ("/a//", 4), ("/a///b", 4), ("/a[any", 3), ("/a[a", 3), ("(&)", 0), ('"x"', 0), ("any", 0), ("[", 0),
        ]:
            self.assertEqual(judged(line), (False, at), line)
            self.refused(line, at)

    def test_each_beginning_of_a_written_line(self):
        lines = [line for question, line in QUESTIONS]
        lines += [shown(Maker(seed).steps(2)) for seed in range(60)]
        for line in lines:
            for many in range(len(line)):
                begun = line[:many]
                try:
                    self.assertEqual(shown(read(begun)), begun)
                except NoText as error:
                    self.assertEqual(error.at, many)
                    self.assertFalse(len(begun) < 60 and judged(begun)[0], begun)

    def test_each_written_line_with_one_sign_changed_put_in_or_left_out(self):
        signs = '/*[]()&+ "\\qany' + PERCENT
        for question, line in QUESTIONS:
            if len(line) > 24:
                continue
            for at in range(len(line) + 1):
                self.held(line[:at] + line[at + 1:])
                for sign in signs:
                    for other in [line[:at] + sign + line[at + 1:], line[:at] + sign + line[at:]]:
                        if longest_word(other) <= 12:
                            self.held(other)

    def test_longer_lines_with_one_sign_changed(self):
        for question, line in QUESTIONS:
            for at in range(0, len(line), 3):
                for sign in '/)& "a':
                    self.held(line[:at] + sign + line[at + 1:])

    def test_each_short_row_of_signs(self):
        rows = ["/a[(", "/a[", "/"]
        for _ in range(3):
            rows = [row + sign for row in rows for sign in '/*[](&+ "\\a)'] + rows[-1:]
        for row in rows:
            self.held(row)

    def test_large(self):
        deep = ANY
        for _ in range(3):
            deep = has(own("abcdefghijkl", both(deep)))
        question = [inner("*"), inner("b", deep)]
        self.assertEqual(read(shown(question)), question)
        wide = [own("a", one(*[words("x" * 4) for _ in range(37)]))]
        self.assertEqual(count_and_depth(wide), (39, 3))
        self.assertEqual(read(shown(wide)), wide)
        steps = [inner("abcdefghijkl") for _ in range(20)]
        with in_good_time():
            self.assertEqual(read(shown(steps)), steps)
        self.refused(shown(wide)[:-1], len(shown(wide)) - 1)

    def test_somewhat_beyond(self):
        deep = ANY
        for _ in range(20):
            deep = both(deep)
        question = [own("a", deep), own("b", words("x" * 70))]
        self.assertEqual(read(shown(question)), question)


def longest_word(line):
    longest, here = 0, 0
    for sign in line:
        here = here + 1 if sign in LETTERS else 0
        longest = max(longest, here)
    return longest


if __name__ == "__main__":
    unittest.main()
