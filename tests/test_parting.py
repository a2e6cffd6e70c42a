import copy
import unittest

from earlysift.models import Judge, models
from earlysift.parting import parting
from earlysift.papers import many_parts, signs_of, stump
from earlysift.plain import answers
from helper import (
    ALL, ANY, Maker, both, count_and_depth, depths_of, has, in_good_time, inner, keeps_apart, leavings, one, own,
    small_papers, spoil, stars_in, within_bounds, words,
)

MARK = "the part that answers"


# The models of a question one by one, with no thought of how many they are: each one's wish by itself, each inner
# step passing from none up to so many parts of a name that no question names.

def wish_models(wish, most):
    if wish[0] == "any":
        return [[]]
    if wish[0] == "text":
        return [[wish[1]]]
    if wish[0] == "has":
        return [[part] for part in steps_models(wish[1], most, [])]
    if wish[0] == "one":
        return [parts for other in wish[1] for parts in wish_models(other, most)]
    found = [[]]
    for other in wish[1]:
        found = [ahead + parts for ahead in found for parts in wish_models(other, most)]
    return found


def steps_models(steps, most, inmost):
    way, name, wish = steps[0]
    name = "zz" if name == "*" else name
    behind = [[part] for part in steps_models(steps[1:], most, inmost)] if len(steps) > 1 else [inmost]
    found = [(name, first + parts) for first in behind for parts in wish_models(wish, most)]
    layer = found
    for _ in range(most if way == "inner" else 0):
        layer = [("zz", [part]) for part in layer]
        found = found + layer
    return found


def slow_lies_within(first, second):
    for paper in steps_models(first, stars_in(second) + 2, [MARK]):
        signs = signs_of(paper)
        ahead = signs[:signs.index(("text", MARK))]
        number = len([sign for sign in ahead if sign[0] == "open"]) - 1
        if number not in answers(paper, second):
            return False
    return True


# First questions that lie within the second, and such that don't.
WITHIN = [
    ([own("a")], [inner("a")]),
    ([own("a")], [own("*")]),
    ([inner("a")], [inner("*")]),
    ([own("a", words("x"))], [own("a")]),
    ([own("a", both(words("x"), words("y")))], [own("a", both(words("y"), words("x")))]),
    ([own("a", both(words("x"), words("y")))], [own("a", words("y"))]),
    ([own("a", words("x"))], [own("a", one(words("x"), words("y")))]),
    ([own("a", words("y"))], [own("a", one(words("x"), words("y")))]),
    ([own("a", one(words("x"), words("y")))], [own("a", one(words("y"), words("x"), words("z")))]),
    ([own("a", has(own("b"), own("c")))], [own("a", has(own("b")))]),
    ([own("a", has(own("b"), own("c")))], [own("a", has(own("b", has(own("c")))))]),
    ([own("a", has(own("b", has(own("c")))))], [own("a", has(own("b"), own("c")))]),
    ([inner("a"), inner("b")], [inner("b")]),
    ([own("*"), own("a")], [inner("a")]),
    ([inner("*"), own("*")], [own("*"), inner("*")]),
    ([own("*"), inner("*")], [inner("*"), own("*")]),
    ([inner("*"), inner("*"), own("*")], [own("*"), own("*"), inner("*")]),
    ([own("*"), own("*"), inner("*")], [inner("*"), inner("*"), own("*")]),
    ([own("a", one())], [own("b")]),
    ([own("a", both(words("x"), one()))], [own("b", one())]),
    ([own("a", has(own("b", one())))], [own("b")]),
    ([own("a")], [own("a", both())]),
    ([own("a", both())], [own("a")]),
    ([own("a", both(both(), ANY))], [own("a", one(one(), ANY))]),
    ([own("a", one(both(words("x"), words("y")), both(words("x"), words("z"))))], [own("a", words("x"))]),
    ([own("a", both(words("x"), one(words("y"), words("z"))))],
     [own("a", one(both(words("x"), words("y")), both(words("x"), words("z"))))]),
    ([own("a", has(inner("b", has(own("c")))))], [own("a", has(inner("*"), own("c")))]),
    # An inner step passes no part, or one at least.
    ([own("a", has(inner("b")))], [own("a", one(has(own("b")), has(own("*"), inner("b"))))]),
    ([own("a"), inner("b")], [own("a", one(has(own("b")), has(own("*"), inner("b")))), inner("b")]),
    # One of the two a has a b as an own part that leads on, however far apart they are.
    ([own("a", both(has(own("b", has(inner("b", has(own("c"))))))))], [own("a", has(inner("b"), own("c")))]),
    ([inner("a"), inner("a")], [inner("a"), inner("a")]),
]
APART = [
    ([inner("a")], [own("a")]),
    ([own("*")], [own("a")]),
    ([inner("*")], [inner("a")]),
    ([own("a")], [own("a", words("x"))]),
    ([own("a", words("x"))], [own("a", words("y"))]),
    ([own("a", words("y"))], [own("a", both(words("x"), words("y")))]),
    ([own("a", one(words("x"), words("y")))], [own("a", words("x"))]),
    ([own("a", one(words("x"), words("y")))], [own("a", words("y"))]),
    ([own("a", has(own("b")))], [own("a", has(own("b"), own("c")))]),
    ([own("a", both(has(own("b")), has(inner("c"))))], [own("a", has(own("b"), own("c")))]),
    ([inner("a")], [own("*"), own("a")]),
    ([inner("a")], [own("*"), inner("a")]),
    ([inner("*")], [own("*"), inner("*")]),
    ([own("a"), inner("b")], [own("a"), own("*"), own("b")]),
    ([own("a"), own("*"), own("b")], [own("a"), own("b")]),
    ([own("a"), inner("b")], [own("a", one(has(own("b")), has(own("*"), own("b")))), inner("b")]),
    ([own("a"), inner("b")],
     [own("a", one(has(own("b")), has(own("*"), own("b")), has(own("*"), own("*"), own("b")))), inner("b")]),
    ([own("a")], [own("a", one())]),
    ([own("a", both())], [own("a", both(one(), ANY))]),
    ([own("a"), own("b")], [own("a")]),
    ([own("a")], [own("a"), own("b")]),
    ([own("a", has(own("b", words("x")), own("c")))], [own("a", has(own("b"), own("c", words("x"))))]),
    ([own("a", both(has(own("b", words("x"))), has(own("b", words("y")))))],
     [own("a", has(own("b", both(words("x"), words("y")))))]),
]


def pairs(many, deep=2):
    """Pairs of questions within the bounds; the most come of one another, so that they often lie close."""
    for seed in range(many):
        maker = Maker(seed)
        lot = maker.random
        first = maker.steps(deep)
        second = maker.steps(deep)
        if lot.randrange(5):
            second = first
            for _ in range(lot.randrange(4)):
                second = lot.choice(leavings(second) or [second])
            if lot.randrange(2):
                second = [(lot.choice([step[0], "inner"]), lot.choice([step[1], "*"]), step[2]) for step in second]
            if lot.randrange(2):
                place = lot.randrange(len(second))
                second = second[:place] + [(lot.choice(["own", "inner"]), "*", ANY)] + second[place:]
            if len(second) > 1 and lot.randrange(2):
                place = lot.randrange(len(second) - 1)
                second = second[:place] + second[place + 1:]
        if within_bounds(first) and within_bounds(second):
            yield (first, second) if lot.randrange(3) else (second, first)


class Parting(unittest.TestCase):
    """[20]"""

    def check(self, first, second, lies_within):
        told = keeps_apart(self, parting, first, second)
        if lies_within:
            self.assertIsNone(told, (first, second))
            return
        self.assertIsNotNone(told, (first, second))
        self.assertEqual((type(told), len(told), type(told[0]), type(told[1])), (tuple, 2, tuple, int))
        paper, number = told
        self.assertIn(number, answers(paper, first), (first, second))
        self.assertNotIn(number, answers(paper, second), (first, second))
        self.check_paper(paper)
        held = copy.deepcopy(told)
        spoil(told)
        self.assertEqual(parting(first, second), held)
        self.assertEqual(parting(copy.deepcopy(first), copy.deepcopy(second)), held)

    def check_paper(self, paper):
        signs = signs_of(paper)
        self.assertEqual(stump(signs), paper)
        self.assertLessEqual(len([sign for sign in signs if sign[0] != "close"]), 400)
        self.assertLessEqual(max(depths_of(paper)), 200)
        for sign in signs:
            if sign[0] == "open":
                self.assertRegex(sign[1], r"\A[a-z]{1,12}\Z")
            elif sign[0] == "text":
                self.assertRegex(sign[1], r"\A[ -$&-~]{0,60}\Z")

    def test_those_that_lie_within(self):
        for first, second in WITHIN:
            self.assertTrue(slow_lies_within(first, second), (first, second))
            self.check(first, second, True)

    def test_those_that_do_not(self):
        for first, second in APART:
            self.assertFalse(slow_lies_within(first, second), (first, second))
            self.check(first, second, False)

    def test_of_a_question_and_itself(self):
        for seed in range(300):
            question = Maker(seed).steps(2)
            if within_bounds(question):
                self.check(question, question, True)
                self.check(question, copy.deepcopy(question), True)

    def test_against_all_models_one_by_one(self):
        seen = {True: 0, False: 0}
        for first, second in pairs(2500):
            truth = slow_lies_within(first, second)
            self.check(first, second, truth)
            seen[truth] += 1
        self.assertGreater(min(seen.values()), 500)

    def test_no_small_paper_shows_otherwise(self):
        papers = small_papers(5)
        self.assertEqual(len(papers), 286)
        held = 0
        for first, second in WITHIN + list(pairs(250, 1)):
            if parting(first, second) is None:
                held += 1
                for paper in papers:
                    self.assertLessEqual(set(answers(paper, first)), set(answers(paper, second)), (first, second))
        self.assertGreater(held, 60)

    def test_no_paper_of_many_shows_otherwise(self):
        papers = [stump(Maker(seed).signs(40)) for seed in range(40)]
        for first, second in pairs(400):
            if parting(first, second) is None:
                for paper in papers:
                    self.assertLessEqual(set(answers(paper, first)), set(answers(paper, second)), (first, second))

    def test_all_names_of_one_letter(self):
        names = "abcdefghijklmnopqrstuvwxyz"
        second = [inner("*", has(own("a")))] + [own(name) for name in names[:18]]
        self.check([own("*")], second, False)
        wide = [own("*", one(*[has(own(name)) for name in names]))]
        self.check([own("*", has(own("*")))], wide, False)
        self.check([own("*", has(own("q")))], wide, True)

    def test_texts_the_other_does_not_name(self):
        self.check([own("a", words("x"))], [own("a", words(""))], False)
        self.check([own("a", words(""))], [own("a", words(""))], True)

    def test_models_are_the_least(self):
        # A longer way adds nothing here that the shorter one lacks, and the shorter one nothing that it lacks.
        self.assertEqual(len(models(Judge(ALL), [inner("a")])), 1)
        self.assertEqual(models(Judge(ALL), [inner("a", one())]), {})


def deep_own(levels, wish):
    for _ in range(levels):
        wish = has(own("a", wish))
    return wish


class Large(unittest.TestCase):
    """[21]"""

    def check(self, first, second, lies_within=None):
        for question in [first, second]:
            self.assertLessEqual(count_and_depth(question)[0], 40)
        with in_good_time():
            told = parting(first, second)
        if told is not None:
            self.assertIn(told[1], answers(told[0], first))
            self.assertNotIn(told[1], answers(told[0], second))
            self.assertLessEqual(many_parts(told[0]), 400)
            self.assertLessEqual(max(depths_of(told[0])), 200)
        if lies_within is not None:
            self.assertIs(told is None, lies_within)

    def test_all_choices_told_apart(self):
        ones = [("b", "pqr"), ("c", "stu"), ("d", "vwx")]
        wishes = [has(inner(name, one(*[words(text) for text in texts]))) for name, texts in ones]
        first = [own("a", both(*wishes))]
        self.check(first, first, True)
        near = [has(own(name, words(text))) for name, texts in ones for text in texts]
        self.check(first, [own("a", one(*near))], False)
        mixed = [has(own("*"), inner(name)) for name, texts in ones] + [has(own(name)) for name, texts in ones]
        self.check(first, [own("a", one(*mixed))], True)
        self.check(first, [own("a", one(*mixed[1:]))], True)
        self.check(first, [own("a", one(*mixed[:3]))], False)

    def test_three_inner_steps_on_the_way(self):
        first = [inner("a", one(words("p"), words("q"), words("r"))) for _ in range(3)] + [own("*")] * 8
        self.check(first, first[:3] + [own("a")] * 8, False)
        self.check(first, [inner("*"), inner("a"), inner("*"), inner("*"), own("*")], True)
        self.check(first, [inner("*", has(own("*"), own("a"), own("a"))), inner("*")], False)
        self.check(first, [inner("a", one(words("p"), one(words("r"), words("q")))), inner("*"), inner("*")], True)

    def test_four_stars_one_behind_the_other(self):
        first = [own("a"), inner("b"), inner("c"), inner("d"), own("e")]
        for many in range(5):
            self.check(first, [own("a")] + [own("*")] * many + [inner("e")], many < 4)
            self.check(first, [own("a")] + [own("*")] * many + [own("e")], False)
            self.check(first, [own("a")] + [inner("*")] * many + [own("e")], 0 < many < 4)

    def test_nested_twelve_deep(self):
        deep = deep_own(5, one(words("x"), words("y")))
        first = [inner("a", deep)]
        self.assertEqual(count_and_depth(first)[1], 13)
        self.check([inner("a", deep[1][0][2])], [inner("*", deep_own(4, ANY))], True)
        self.check(first, [inner("*", deep_own(4, words("x")))], False)

    def test_forty_tuples(self):
        first = [own("a") for _ in range(17)] + [inner("a") for _ in range(3)]
        self.check(first, first, True)
        self.check(first, [own("a") for _ in range(20)], False)
        self.check(first, [inner("a") for _ in range(20)], True)
        self.check(first, [inner("a") for _ in range(19)] + [own("a")], False)
        self.check([own("a") for _ in range(20)], first, True)
        wishes = both(*[has(own("a", words(str(number)))) for number in range(9)])
        self.check([inner("a", wishes)], [inner("*", both(*reversed(wishes[1])))], True)

    def test_somewhat_beyond(self):
        first = [inner("a", one(words("x"), words("y"))) for _ in range(5)]
        self.check(first, [inner("*") for _ in range(5)], True)
        self.check(first, [inner("*") for _ in range(6)], False)


if __name__ == "__main__":
    unittest.main()
