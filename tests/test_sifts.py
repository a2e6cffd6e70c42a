import copy
import unittest

from earlysift.errors import Late, NoPart, NoSign, NoText, SiftError, Taken
from earlysift.papers import signs_of, stump
from earlysift.plain import answers
from earlysift.sifts import Sift
from helper import (
    ALL, ANY, CLOSE, Maker, beginnings, both, check_ending, count_and_depth, deep_paper, deep_steps, has,
    in_good_time, inner, most_of, one, open_at_end, opening, own, spoil, steps_within_steps, text, words,
)

OUTLOOKS = ("sure", "open", "lost")


def sifted(question, signs):
    sift = Sift(question)
    for sign in signs:
        sift.take(sign)
    return sift


def cases(many, deep=2, length=15):
    """Questions, each with the signs of a paper."""
    for seed in range(many):
        maker = Maker(seed)
        yield maker.steps(deep), maker.signs(length)


class Take(unittest.TestCase):
    """[13], [14]"""

    def check(self, question, signs):
        sift, ahead = Sift(question), []
        for begun in beginnings(signs):
            now = answers(stump(begun), question)
            fresh = sift.take(begun[-1])
            self.assertIsInstance(fresh, list)
            self.assertEqual(fresh, [number for number in now if number not in ahead], (question, begun))
            self.assertEqual(sift.told(), now)
            self.assertIs(sift.is_over(), open_at_end(begun) == 0)
            ahead = now
        return ahead

    def test_with_each_sign(self):
        answered = sum(len(self.check(question, signs)) for question, signs in cases(600, 3, 25))
        self.assertGreater(answered, 300)

    def test_ahead_of_the_first_sign(self):
        sift = Sift(ALL)
        self.assertEqual((sift.told(), sift.waiting()), ([], []))
        self.assertIs(sift.is_over(), False)

    def test_the_first_sign(self):
        self.assertEqual(Sift([own("a")]).take(opening("a")), [0])
        self.assertEqual(Sift([inner("*")]).take(opening("b")), [0])
        self.assertEqual(Sift([own("b")]).take(opening("a")), [])

    def test_parts_are_told_with_the_sign_that_settles_them(self):
        sift = Sift([own("a", words("x")), inner("b", has(own("c")))])
        paper = ("a", [("b", [("c", [])]), ("b", []), ("d", [("b", [("c", [])])]), "x", ("b", ["x", ("c", [])]), "x"])
        told = [sift.take(sign) for sign in signs_of(paper)]
        expected = [[] for sign in told]
        expected[13] = [1, 5]
        expected[16] = [7]
        self.assertEqual(told, expected)

    def test_questions_of_five_steps(self):
        five = [own("a"), inner("b", words("x")), own("*"), inner("c", has(own("d"))), own("d")]
        paper = ("a", [("b", [("e", [("c", [("d", []), ("e", []), ("d", [])])]), "x"]), ("b", [("c", [("d", [])])])])
        self.assertEqual(self.check(five, signs_of(paper)), [4, 6])
        for seed in range(150):
            maker = Maker(seed)
            question = [maker.step(1) for _ in range(5)]
            self.check(question, maker.signs(40))
        deep = signs_of(("a", [("a", [("a", [("a", [("a", ["x", ("a", [])])]), "x"]), ("a", [("a", [])])]), "x"]))
        for ways in range(32):
            steps = [("inner" if ways & (1 << place) else "own", "a", ANY) for place in range(5)]
            self.check(steps, deep)
            self.check(steps[:2] + [steps[2][:2] + (words("x"),)] + steps[3:], deep)

    def test_names_of_which_one_begins_another(self):
        signs = signs_of(("ab", [("a", []), ("abc", ["a"]), ("ab", [("a", [])]), ("b", [])]))
        for name in ["a", "ab", "abc", "b", "abcd", "*"]:
            self.check([inner(name)], signs)
            self.check([own("ab"), inner(name)], signs)
            self.check([own("ab", has(own("ab", has(own(name))))), own("*")], signs)

    def test_a_part_that_answers_in_more_than_one_way_is_told_once(self):
        question = [inner("a", one(words("x"), words("y"), has(own("b")))), inner("*", one(ANY, words("x")))]
        paper = ("a", [("a", ["x", ("b", ["x"]), "y", ("b", [])]), "y", "x", ("b", []), "x"])
        sift, told = Sift(question), []
        for sign in signs_of(paper):
            told.extend(sift.take(sign))
        self.assertEqual(sorted(told), [1, 2, 3, 4])
        self.check(question, signs_of(paper))

    def test_numbers_are_whole_numbers(self):
        for numbers in [Sift(ALL).take(opening("a")), sifted(ALL, [opening("a")]).told()]:
            self.assertEqual([type(number) for number in numbers], [int])


class Refused(unittest.TestCase):
    def refuse(self, sift, sign, at):
        before = (sift.told(), sift.waiting(), sift.is_over())
        with self.assertRaises(NoSign) as caught:
            sift.take(sign)
        self.assertEqual(caught.exception.at, at)
        self.assertIs(type(caught.exception.at), int)
        for other in (NoText, NoPart, Taken, Late):
            self.assertNotIsInstance(caught.exception, other)
        self.assertIsInstance(caught.exception, SiftError)
        self.assertEqual((sift.told(), sift.waiting(), sift.is_over()), before)

    def test_ahead_of_the_first_opening(self):
        sift = Sift([own("a", words("x"))])
        for sign in [CLOSE, text("x"), text(""), CLOSE]:
            self.refuse(sift, sign, 0)
        with self.assertRaises(Late):
            sift.shortest()
        self.assertEqual(sift.take(opening("a")), [])
        self.assertEqual(sift.take(text("x")), [0])

    def test_behind_the_close_of_the_first_part(self):
        signs = [opening("a"), opening("b"), text("x"), CLOSE, CLOSE]
        sift = sifted([inner("b")], signs)
        for sign in [CLOSE, text("x"), opening("a"), opening("b")]:
            self.refuse(sift, sign, 5)
        self.assertEqual(sift.told(), [1])
        self.refuse(sifted(ALL, [opening("a"), CLOSE]), opening("a"), 2)

    def test_refused_signs_between_change_nothing(self):
        for question, signs in cases(60):
            sift, plain = Sift(question), Sift(question)
            self.refuse(sift, CLOSE, 0)
            for sign in signs:
                self.assertEqual(sift.take(sign), plain.take(sign))
            for sign in [CLOSE, text("x"), opening("a")]:
                self.refuse(sift, sign, len(signs))
            self.assertEqual(sift.told(), plain.told())


class Waiting(unittest.TestCase):
    """[15]"""

    def test_behind_each_sign(self):
        waited = 0
        for question, signs in cases(300, 2, 12):
            deep = deep_steps(question)
            if deep > 4:
                continue
            sift = Sift(question)
            for begun in beginnings(signs):
                sift.take(begun[-1])
                opened = len([sign for sign in begun if sign[0] == "open"])
                could = answers(stump(most_of(begun, question, deep)), question)
                expected = [number for number in could if number < opened and number not in sift.told()]
                self.assertEqual(sift.waiting(), expected, (question, begun))
                self.assertEqual(sift.waiting(), expected)
                waited += len(expected)
        self.assertGreater(waited, 200)

    def test_nothing_waits_behind_the_close_of_the_first_part(self):
        for question, signs in cases(60):
            self.assertEqual(sifted(question, signs).waiting(), [])

    def test_what_is_told_waits_no_more(self):
        sift = sifted([own("a", words("x")), own("b")], [opening("a"), opening("b"), CLOSE, opening("b")])
        self.assertEqual(sift.waiting(), [1, 2])
        sift.take(CLOSE)
        sift.take(text("x"))
        self.assertEqual((sift.waiting(), sift.told()), ([], [1, 2]))


class Endings(unittest.TestCase):
    """[16]"""

    def test_of_each_number_that_waits(self):
        for question, signs in cases(300, 3):
            sift = Sift(question)
            for begun in beginnings(signs):
                sift.take(begun[-1])
                for number in sift.waiting():
                    ending = sift.ending(number)
                    self.assertIn(number, answers(check_ending(self, begun, ending), question))
                    on = sifted(question, begun)
                    told = [part for sign in ending for part in on.take(sign)]
                    self.assertIn(number, told)
                    self.assertTrue(on.is_over())

    def test_of_other_numbers(self):
        for question, signs in cases(40):
            sift = Sift(question)
            for begun in [[]] + beginnings(signs):
                if begun:
                    sift.take(begun[-1])
                others = [number for number in range(-3, 20) if number not in sift.waiting()]
                for number in others + [10 ** 59, 10 ** 60 - 1, -(10 ** 60 - 1)]:
                    with self.assertRaises(NoPart):
                        sift.ending(number)

    def test_of_numbers_told_not_opened_and_settled(self):
        sift = sifted([own("a", words("x")), own("b")], [opening("a"), opening("c"), CLOSE, opening("b")])
        self.assertEqual(sift.waiting(), [2])
        for number in [-1, 0, 1, 3]:
            self.assertRaises(NoPart, sift.ending, number)
        sift.ending(2)
        sift.take(CLOSE)
        sift.take(text("x"))
        self.assertEqual(sift.told(), [2])
        self.assertRaises(NoPart, sift.ending, 2)

    def test_the_shortest(self):
        with self.assertRaises(Late):
            Sift(ALL).shortest()
        for question, signs in cases(100):
            sift = Sift(question)
            for begun in beginnings(signs):
                sift.take(begun[-1])
                shortest = sift.shortest()
                self.assertEqual(shortest, [CLOSE] * open_at_end(begun))
                on = sifted(question, begun)
                self.assertEqual([on.take(sign) for sign in shortest], [[] for sign in shortest])
                self.assertEqual(on.told(), sift.told())
            self.assertEqual(sift.shortest(), [])


class Outlooks(unittest.TestCase):
    """[22]"""

    def test_late_ahead_of_any_sign(self):
        for question in [ALL, [own("a", one())]]:
            sift = Sift(question)
            self.assertRaises(Late, sift.outlook)
            self.assertRaises(Late, sift.hope)
            self.assertRaises(NoSign, sift.take, CLOSE)
            self.assertRaises(Late, sift.outlook)
            self.assertRaises(Late, sift.hope)

    def test_behind_each_sign(self):
        seen = {outlook: 0 for outlook in OUTLOOKS}
        for question, signs in cases(300, 2, 12):
            deep = deep_steps(question)
            if deep > 4:
                continue
            sift = Sift(question)
            for begun in beginnings(signs):
                sift.take(begun[-1])
                expected = "sure" if sift.told() else "open"
                if not answers(stump(most_of(begun, question, deep)), question):
                    expected = "lost"
                self.assertEqual(sift.outlook(), expected, (question, begun))
                self.check_hope(sift, question, begun)
                seen[expected] += 1
        self.assertGreater(min(seen.values()), 200)

    def check_hope(self, sift, question, signs):
        if sift.outlook() == "lost":
            self.assertRaises(NoPart, sift.hope)
            return
        hope = sift.hope()
        self.assertTrue(answers(check_ending(self, signs, hope), question))
        on = sifted(question, signs)
        for sign in hope:
            on.take(sign)
        self.assertTrue(on.told())
        self.assertEqual(on.outlook(), "sure")

    def test_once_sure_or_lost_always_so(self):
        for question, signs in cases(300, 3):
            sift, ahead = Sift(question), "open"
            for sign in signs:
                sift.take(sign)
                now = sift.outlook()
                self.assertIn(now, OUTLOOKS)
                if ahead != "open":
                    self.assertEqual(now, ahead)
                ahead = now
            self.assertEqual(ahead, "sure" if sift.told() else "lost")

    def test_hopes_of_larger_questions(self):
        for question, signs in cases(150, 3):
            sift = Sift(question)
            for begun in beginnings(signs):
                sift.take(begun[-1])
                self.check_hope(sift, question, begun)

    def test_behind_the_close_of_the_first_part(self):
        sift = sifted([own("a")], [opening("a"), CLOSE])
        self.assertEqual((sift.outlook(), sift.hope()), ("sure", []))
        sift = sifted([own("b")], [opening("a"), CLOSE])
        self.assertEqual(sift.outlook(), "lost")
        self.assertRaises(NoPart, sift.hope)


def asked(sift):
    """Asks all that can be asked, and spoils the lists that are told."""
    spoil([sift.told(), sift.waiting()])
    sift.is_over()
    spoil([sift.ending(number) for number in sift.waiting()])
    try:
        spoil(sift.shortest())
        if sift.outlook() != "lost":
            spoil(sift.hope())
    except Late:
        pass


class Apart(unittest.TestCase):
    """[2]"""

    def test_asking_between_the_signs_and_spoiling_what_is_told_changes_nothing(self):
        for question, signs in cases(150, 3):
            sift, plain = Sift(question), Sift(question)
            asked(sift)
            for sign in signs:
                fresh = sift.take(sign)
                self.assertEqual(fresh, plain.take(sign))
                spoil(fresh)
                asked(sift)
                self.assertEqual((sift.told(), sift.waiting()), (plain.told(), plain.waiting()))
                self.assertEqual((sift.outlook(), sift.shortest()), (plain.outlook(), plain.shortest()))
            self.assertEqual(plain.told(), answers(stump(signs), question))

    def test_the_question_changed_behind_the_call(self):
        for question, signs in cases(100, 3):
            before = copy.deepcopy(question)
            sift = Sift(question)
            self.assertEqual(question, before)
            spoil(question)
            for begun in beginnings(signs):
                sift.take(begun[-1])
                self.assertEqual(sift.told(), answers(stump(begun), before))
                for number in sift.waiting():
                    self.assertIn(number, answers(stump(begun + sift.ending(number)), before))
                if sift.outlook() != "lost":
                    self.assertTrue(answers(stump(begun + sift.hope()), before))

    def test_no_list_is_told_twice(self):
        sift = sifted([own("a", words("x")), own("b")], [opening("a"), opening("b")])
        for call in [sift.told, sift.waiting, sift.shortest, sift.hope, lambda: sift.ending(1)]:
            self.assertIsNot(call(), call())
            self.assertEqual(call(), call())

    def test_two_sifts_of_one_question(self):
        question = [own("a", words("x")), own("b")]
        first, second = Sift(question), Sift(question)
        first.take(opening("a"))
        self.assertEqual(second.take(opening("a")), [])
        first.take(text("x"))
        first.take(opening("b"))
        self.assertEqual(second.told(), [])
        self.assertEqual(second.take(opening("b")), [])


class Large(unittest.TestCase):
    """[4], [11]"""

    def test_in_good_time(self):
        signs = signs_of(deep_paper(60, 400))
        questions = [
            [inner("*") for _ in range(20)],
            [inner("*") for _ in range(9)] + steps_within_steps(5, "z"),
            [inner("*") for _ in range(9)] + steps_within_steps(5, "y"),
            [inner("a", both(words("x"), has(inner("z")))) for _ in range(5)] + [inner("a", words("x"))] * 2,
        ]
        for question in questions:
            self.assertLessEqual(count_and_depth(question)[0], 40)
            with in_good_time():
                sift = Sift(question)
                for sign in signs:
                    sift.take(sign)
                    for number in sift.waiting()[:3]:
                        sift.ending(number)
                    if sift.outlook() != "lost":
                        sift.hope()
                self.assertEqual(sift.told(), answers(stump(signs), question))

    def test_a_wide_paper(self):
        question = [own("a", words("end")), own("b", words("x"))]
        paper = ("a", [("b", ["x"]) for _ in range(199)] + ["end"])
        with in_good_time():
            sift = Sift(question)
            for sign in signs_of(paper)[:-2]:
                sift.take(sign)
            self.assertEqual(sift.waiting(), list(range(1, 200)))
            self.assertEqual(sift.take(text("end")), list(range(1, 200)))

    def test_an_ending_may_be_handed_in_beyond_the_bounds_of_papers(self):
        question = [inner("a", has(*[own("b") for _ in range(18)]))]
        sift = sifted(question, [opening("a")] * 60)
        for sign in sift.ending(59):
            sift.take(sign)
        self.assertIn(59, sift.told())


if __name__ == "__main__":
    unittest.main()
