import copy
import unittest

from earlysift.parting import parting
from earlysift.plainer import alike, leaving_outs, plainer
from earlysift.papers import stump
from earlysift.plain import answers
from helper import (
    ANY, Maker, both, count_and_depth, has, in_good_time, inner, keeps_apart, leavings, one, own, small_papers, spoil,
    within_bounds, words,
)

ALIKE = [
    ([own("a")], [own("a", both())]),
    ([own("a", words("x"))], [own("a", both(words("x")))]),
    ([own("a", words("x"))], [own("a", one(words("x"), one()))]),
    ([own("a", both(words("x"), words("y")))], [own("a", both(words("y"), ANY, words("x"), words("y")))]),
    ([own("a", has(own("b"), own("c")))], [own("a", has(own("b", has(own("c")))))]),
    ([own("a", has(inner("*"), own("c")))], [own("a", has(own("*"), inner("c")))]),
    ([own("a", one())], [own("b", both(ANY, one()))]),
    ([inner("a", one()), own("b")], [own("c", has(own("d", one())))]),
]
UNLIKE = [
    ([own("a")], [own("b")]),
    ([own("a")], [own("*")]),
    ([own("*")], [own("a")]),
    ([own("a")], [inner("a")]),
    ([inner("a")], [own("a")]),
    ([own("a", words("x"))], [own("a")]),
    ([own("a")], [own("a", words("x"))]),
    ([own("a", words("x"))], [own("a", words("y"))]),
    ([own("a", one())], [own("a")]),
    ([own("a"), own("b")], [own("a", has(own("b")))]),
]


def questions(many, deep=2):
    for seed in range(many):
        question = Maker(seed).steps(deep)
        if within_bounds(question):
            yield question


class Alike(unittest.TestCase):
    """[27]"""

    def test_those_that_are(self):
        for first, second in ALIKE:
            self.assertIs(keeps_apart(self, alike, first, second), True)
            self.assertIs(alike(second, first), True)

    def test_those_that_are_not(self):
        for first, second in UNLIKE:
            self.assertIs(keeps_apart(self, alike, first, second), False)
            self.assertIs(alike(second, first), False)

    def test_a_question_and_itself(self):
        for question in questions(150):
            self.assertIs(alike(question, question), True)
            self.assertIs(alike(question, copy.deepcopy(question)), True)

    def test_those_alike_have_the_same_answers(self):
        papers = small_papers(4) + [stump(Maker(seed).signs(30)) for seed in range(30)]
        seen = {True: 0, False: 0}
        for question in questions(120, 1):
            for other in leavings(question):
                truth = alike(question, other)
                self.assertIs(truth, parting(question, other) is None and parting(other, question) is None)
                seen[truth] += 1
                if truth:
                    self.assertTrue(all(answers(paper, question) == answers(paper, other) for paper in papers))
        self.assertGreater(min(seen.values()), 20)


def comes_of(question, plain):
    """Whether leaving-outs, each of a question alike to it, lead from the question to the plain one."""
    seen, rest = [], [question]
    while rest:
        here = rest.pop()
        if here == plain:
            return True
        if here not in seen:
            seen.append(here)
            rest.extend(other for other in leavings(here) if alike(other, question))
    return False


class Plainer(unittest.TestCase):
    """[26], [27]"""

    def check(self, question):
        plain = keeps_apart(self, plainer, question)
        self.assertIs(type(plain), list)
        self.assertTrue(alike(plain, question), question)
        for other in leavings(plain):
            self.assertFalse(alike(other, plain), (question, plain, other))
        held = copy.deepcopy(plain)
        spoil(plain)
        self.assertEqual(plainer(question), held)
        self.assertEqual(plainer(copy.deepcopy(question)), held)
        return held

    def test_the_leaving_outs(self):
        for question in questions(300, 3):
            found, words_of_the_point = leaving_outs(question), leavings(question)
            self.assertEqual(sorted(map(repr, found)), sorted(map(repr, words_of_the_point)))

    def test_one_leaving_out_at_each_place(self):
        question = [own("a", both(words("x"), has(own("b"), own("c", words("y"))))), own("d", one(words("z")))]
        first, second = question
        b, c = first[2][1][1][1]
        expected = [
            [own("a"), second],
            [own("a", both(has(b, c))), second],
            [own("a", both(words("x"))), second],
            [own("a", both(ANY, has(b, c))), second],
            [own("a", both(words("x"), ANY)), second],
            [own("a", both(words("x"), has(b))), second],
            [own("a", both(words("x"), has(b, own("c")))), second],
            [first, own("d")],
            [first, own("d", one(ANY))],
        ]
        self.assertEqual(sorted(map(repr, leaving_outs(question))), sorted(map(repr, expected)))

    def test_of_many_questions(self):
        shorter = 0
        for question in questions(400):
            plain = self.check(question)
            self.assertTrue(plain == question or count_and_depth(plain) <= count_and_depth(question))
            shorter += plain != question
        self.assertGreater(shorter, 50)

    def test_it_comes_of_the_question_by_leaving_outs(self):
        for question in questions(150, 1):
            self.assertTrue(comes_of(question, plainer(question)), question)

    def test_what_becomes_of_some(self):
        for question, plain in [
            ([own("a")], [own("a")]),
            ([own("a", both())], [own("a")]),
            ([own("a", both(ANY, both()))], [own("a")]),
            ([own("a", one(words("x"), ANY))], [own("a")]),
            ([own("a", one())], [own("a", one())]),
            ([own("a", words("x"))], [own("a", words("x"))]),
            ([own("a", both(words("x"), words("x")))], [own("a", both(words("x")))]),
            ([own("a", both(words("x"), words("y")))], [own("a", both(words("x"), words("y")))]),
            ([own("a", has(own("b"), own("c")))], [own("a", has(own("b"), own("c")))]),
            ([own("a", has(own("b"))), own("b")], [own("a"), own("b")]),
            ([own("a", has(inner("b"))), own("b")], [own("a"), own("b")]),
            ([own("a", has(own("b"))), inner("b")], [own("a", has(own("b"))), inner("b")]),
            ([own("a", has(own("*"), own("*"))), own("b"), own("c")], [own("a"), own("b"), own("c")]),
        ]:
            self.assertEqual(self.check(question), plain)

    def test_of_what_can_never_hold(self):
        for wish in [one(), both(one(), words("x")), has(own("a", one()), own("b")), one(one(), has(own("b", one())))]:
            plain = self.check([own("a", wish)])
            self.assertFalse(answers(("a", ["x", ("a", [("b", [])])]), plain))
        plain = self.check([own("a", one()), own("b", one())])
        self.assertEqual(len([step for step in plain if step[2] == ANY]), 1)

    def test_a_one_that_another_wish_settles(self):
        question = [own("a", both(words("x"), one(words("x"), words("y"))))]
        self.assertEqual(self.check(question), [own("a", both(words("x")))])
        question = [own("a", one(words("x"), both(words("x"), words("y"))))]
        self.assertEqual(self.check(question), [own("a", one(words("x")))])

    def test_a_list_at_two_places_of_the_question(self):
        wish = both(words("x"), has(own("b", words("y"))))
        self.check([own("a", wish), own("b", wish)])


class Large(unittest.TestCase):
    """[28]"""

    def check(self, question, same=None):
        self.assertTrue(within_bounds(question))
        with in_good_time():
            plain = plainer(question)
        self.assertTrue(alike(plain, question))
        if same is not None:
            self.assertIs(plain == question, same)

    def test_in_good_time(self):
        texts = [words(text) for text in "pqrstuvwx"]
        branches = [has(inner(name, one(*texts[place:place + 3]))) for name, place in [("b", 0), ("c", 3), ("d", 6)]]
        self.check([own("a", both(*branches)), own("*"), own("*"), own("*"), own("*")], True)
        self.check([own("a", both(branches[0], branches[1], has(own("b", texts[0])), has(own("c", texts[1]))))], False)
        steps = [own("a") for _ in range(6)] + [inner("a") for _ in range(3)]
        self.check([own("a", both(has(*steps), has(*steps[:6])))], False)
        wishes = [has(own("a", words(str(number % 5)))) for number in range(12)]
        self.check([own("*", both(*wishes))], False)

    def test_of_many_large_questions(self):
        made = 0
        for seed in range(3000):
            maker = Maker(seed)
            wishes = [maker.wish(4) for _ in range(4)]
            question = [maker.step(1), own("a", both(*wishes))]
            if within_bounds(question) and count_and_depth(question)[0] >= 25:
                made += 1
                self.check(question)
        self.assertGreater(made, 20)


if __name__ == "__main__":
    unittest.main()
