import copy
import unittest

from earlysift.chains import Coming
from earlysift.errors import NoSign
from earlysift.papers import signs_of, stump
from earlysift.plain import answers
from helper import (
    ALL, ANY, CLOSE, Maker, beginnings, both, count_and_depth, deep_paper, deep_steps, has, in_good_time, inner,
    most_of, one, opening, own, spoil, steps_within_steps, text, ways_on, words,
)

# Each can be brought about by few signs, so that all ways to go on by some few show what can still answer.
SMALL_WISHES = [
    ANY, both(), one(), words("x"), has(own("b")), has(inner("b")), has(own("*")), has(own("b", one())),
    both(one(), words("x")), one(one(), words("x")), both(words("x"), has(own("b"))), both(ANY, one()),
]
SMALL_ROWS = [
    [opening("a")],
    [opening("a"), text("x")],
    [opening("a"), opening("b")],
    [opening("a"), opening("b"), CLOSE],
    [opening("b"), opening("a"), text("x"), CLOSE],
    [opening("a"), opening("a"), opening("b"), CLOSE, CLOSE],
    [opening("a"), opening("a"), opening("b"), CLOSE],
    [opening("a"), opening("b"), opening("a"), CLOSE, text("x"), CLOSE, opening("b")],
    [opening("a"), opening("b"), CLOSE, CLOSE],
    [opening("a"), CLOSE],
]


def came(question, signs):
    coming = Coming(question)
    for sign in signs:
        coming.feed(sign)
    return coming


class Told(unittest.TestCase):
    """[13], [14]: with each sign the parts that answer in the stump so far and not in the one ahead."""

    def check(self, question, signs):
        coming, ahead = Coming(question), []
        for begun in beginnings(signs):
            now = answers(stump(begun), question)
            self.assertEqual(coming.feed(begun[-1]), [number for number in now if number not in ahead], begun)
            ahead = now
        return ahead

    def test_like_plain_over_stumps_and_whole_papers(self):
        answered = 0
        for seed in range(1000):
            maker = Maker(seed)
            question, signs = maker.steps(3), maker.signs(25)
            answered += len(self.check(question, signs))
        self.assertGreater(answered, 500)

    def test_a_text_settles_parts_that_have_closed(self):
        question = [own("a", words("x")), own("b", has(own("c"))), inner("*")]
        paper = ("a", [("b", [("c", [("d", [])])]), ("b", [("d", [])]), "x", ("b", [("c", [])])])
        self.assertEqual(self.check(question, signs_of(paper)), [2, 3, 7])
        coming = Coming(question)
        told = [coming.feed(sign) for sign in signs_of(paper)]
        self.assertEqual([numbers for numbers in told if numbers], [[2, 3], [7]])

    def test_chains_through_parts_that_have_closed(self):
        paper = ("a", [("b", [("b", [("c", ["y"]), ("b", [("c", [])])]), ("c", [])]), "x"])
        for ways in range(16):
            way = ["inner" if ways & (1 << place) else "own" for place in range(4)]
            question = [(way[0], "a", words("x")), (way[1], "b", ANY), (way[2], "b", ANY), (way[3], "c", ANY)]
            self.check(question, signs_of(paper))
            self.check(question[:2] + question[3:], signs_of(paper))

    def test_what_answered_in_a_stump_answers_however_it_goes_on(self):
        question = [inner("a", one(words("x"), has(own("b")))), inner("*")]
        for signs in SMALL_ROWS:
            told = answers(stump(signs), question)
            for on in ways_on(signs, 3):
                self.assertEqual(sorted(set(told) - set(answers(stump(on), question))), [])
                self.check(question, on)


class Waits(unittest.TestCase):
    """[15]: opened, not told, and answering in some paper that begins with the signs so far."""

    def check(self, question, signs, most):
        told = answers(stump(signs), question)
        opened = [number for number, sign in enumerate([one for one in signs if one[0] == "open"])]
        waits = [number for number in answers(stump(most), question) if number in opened and number not in told]
        self.assertEqual(came(question, signs).waits(), waits, (question, signs))
        return waits

    def test_all_ways_to_go_on(self):
        for signs in SMALL_ROWS:
            opened = len([sign for sign in signs if sign[0] == "open"])
            stumps = [stump(on) for on in ways_on(signs, 4)]
            for wish in SMALL_WISHES:
                for question in [[own("a", wish), inner("b")], [inner("*", wish)], [inner("a"), own("*", wish)]]:
                    told = answers(stump(signs), question)
                    found = {number for paper in stumps for number in answers(paper, question) if number < opened}
                    self.assertEqual(came(question, signs).waits(), sorted(found - set(told)), (question, signs))

    def test_with_everything_that_could_come(self):
        waited = 0
        for seed in range(400):
            maker = Maker(seed)
            question, signs = maker.steps(2), maker.signs(14)
            deep = deep_steps(question)
            if deep > 4:
                continue
            for begun in beginnings(signs):
                waited += len(self.check(question, begun, most_of(begun, question, deep)))
        self.assertGreater(waited, 300)

    def test_none_ahead_of_the_first_sign_and_behind_the_close_of_the_first_part(self):
        self.assertEqual(Coming(ALL).waits(), [])
        self.assertEqual(Coming([own("a", words("x"))]).waits(), [])
        for seed in range(100):
            maker = Maker(seed)
            coming = came(maker.steps(2), maker.signs(12))
            self.assertTrue(coming.has_ended())
            self.assertEqual((coming.waits(), coming.rests), ([], []))

    def test_wishes_that_can_never_hold(self):
        for wish in [one(), both(one()), both(ANY, one()), has(own("b", one())), one(one(), has(inner("*", one())))]:
            for question in [[inner("*", wish)], [inner("*", wish), inner("*")], [inner("*"), inner("*", wish)]]:
                for signs in SMALL_ROWS:
                    self.assertEqual(came(question, signs).waits(), [])

    def test_wishes_that_hold_of_every_part(self):
        for wish in [ANY, both(), both(both(), ANY), one(both())]:
            for signs in SMALL_ROWS:
                self.assertEqual(came([inner("*", wish)], signs).waits(), [])
        self.assertEqual(came([own("a", words("x")), own("b", both())], SMALL_ROWS[3]).waits(), [1])

    def test_a_part_that_has_closed_and_whose_wish_did_not_hold(self):
        question = [own("a"), own("b", words("x"))]
        self.assertEqual(came(question, [opening("a"), opening("b")]).waits(), [1])
        self.assertEqual(came(question, [opening("a"), opening("b"), CLOSE]).waits(), [])

    def test_a_part_that_has_closed_within_an_open_one_that_may_still_lead_to_it(self):
        question = [own("a", words("x")), inner("b", has(own("c"))), own("*")]
        signs = [opening("a"), opening("b"), opening("d"), CLOSE, opening("c"), CLOSE, opening("d"), CLOSE]
        self.assertEqual(came(question, signs).waits(), [2, 3, 4])
        self.assertEqual(came(question, signs[:4]).waits(), [2])
        self.assertEqual(came(question, signs[:4] + [CLOSE]).waits(), [])
        self.assertEqual(came(question, signs + [CLOSE]).waits(), [2, 3, 4])
        self.assertEqual(came(question, signs + [CLOSE, text("x")]).waits(), [])
        self.assertEqual(came(question, signs + [CLOSE, CLOSE]).waits(), [])

    def test_an_own_step_and_an_inner_one_to_a_part_that_has_closed(self):
        signs = [opening("a"), opening("b"), opening("c"), CLOSE, CLOSE]
        self.assertEqual(came([own("a", words("x")), own("c")], signs).waits(), [])
        self.assertEqual(came([own("a", words("x")), inner("c")], signs).waits(), [2])
        self.assertEqual(came([inner("b", words("x")), own("c")], signs).waits(), [])
        self.assertEqual(came([inner("b", words("x")), own("c")], signs[:-1]).waits(), [2])

    def test_names_that_do_not_fit(self):
        question = [own("a", words("x")), own("b")]
        self.assertEqual(came(question, [opening("b"), opening("b")]).waits(), [])
        self.assertEqual(came(question, [opening("a"), opening("a")]).waits(), [])
        self.assertEqual(came(question, [opening("a"), opening("b")]).waits(), [1])

    def test_of_closed_parts_only_those_that_wait_are_kept(self):
        for seed in range(150):
            maker = Maker(seed)
            coming = Coming(maker.steps(2))
            for sign in maker.signs(20):
                coming.feed(sign)
                numbers = [rest[0] for rest in coming.rests]
                within = [row.number for row in coming.rows]
                waits = [number for number in coming.waits() if number not in within]
                self.assertEqual(numbers, waits)


class Signs(unittest.TestCase):
    def test_a_sign_that_cannot_come_is_refused_and_changes_nothing(self):
        whole = [opening("a"), opening("b"), CLOSE, text("x"), CLOSE]
        question = [inner("*", words("x"))]
        for many in range(len(whole) + 1):
            coming = came(question, whole[:many])
            wrong = [CLOSE, text("x")] if many == 0 else []
            wrong = [CLOSE, text("x"), opening("a")] if many == len(whole) else wrong
            for sign in wrong:
                with self.assertRaises(NoSign) as caught:
                    coming.feed(sign)
                self.assertEqual(caught.exception.at, many)
            told = [coming.feed(sign) for sign in whole[many:]]
            other = Coming(question)
            self.assertEqual(told, [other.feed(sign) for sign in whole][many:])


class Apart(unittest.TestCase):
    """[2]: what is handed in stands as it was, and what is done with it or with what is told changes nothing."""

    def test_the_question(self):
        for seed in range(60):
            maker = Maker(seed)
            question, signs = maker.steps(3), maker.signs(15)
            before = copy.deepcopy(question)
            coming, other = Coming(question), Coming(before)
            told = [other.feed(sign) for sign in signs]
            self.assertEqual([coming.feed(sign) for sign in signs[:3]], told[:3])
            self.assertEqual(question, before)
            spoil(question)
            self.assertEqual([coming.feed(sign) for sign in signs[3:]], told[3:])

    def test_what_is_told(self):
        question = [inner("a", words("x")), inner("*")]
        coming, other = Coming(question), Coming(question)
        for sign in signs_of(("a", [("b", [("c", [])]), "x", ("b", []), "x"])):
            told = coming.feed(sign)
            self.assertEqual(told, other.feed(sign))
            waits = coming.waits()
            self.assertEqual(waits, other.waits())
            spoil(told)
            spoil(waits)


class Large(unittest.TestCase):
    """[4], [11]"""

    def test_large_papers_and_questions(self):
        paper = deep_paper(60, 400)
        ahead = [inner("*") for _ in range(9)]
        questions = [
            [inner("*") for _ in range(20)],
            ahead + steps_within_steps(5, "z"),
            ahead + steps_within_steps(5, "y"),
            [inner("a", words("end"))] + [inner("*") for _ in range(19)],
            [inner("a", words("x"))] + [inner("a", has(inner("z", words("end")))) for _ in range(9)],
        ]
        for question in questions:
            self.assertLessEqual(count_and_depth(question)[0], 40)
            with in_good_time():
                coming, told = Coming(question), []
                for sign in signs_of(paper):
                    told.extend(coming.feed(sign))
                    coming.waits()
                self.assertEqual(sorted(told), answers(paper, question))

    def test_somewhat_beyond(self):
        paper, question = deep_paper(70, 450), [inner("*") for _ in range(23)]
        with in_good_time():
            coming, told = Coming(question), []
            for sign in signs_of(paper):
                told.extend(coming.feed(sign))
            self.assertEqual(sorted(told), answers(paper, question))


if __name__ == "__main__":
    unittest.main()
