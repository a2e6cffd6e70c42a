import copy
import unittest

from earlysift.errors import Late, NoPart, NoSign, Taken
from earlysift.papers import signs_of, stump
from earlysift.plain import answers
from earlysift.sifts import Sift
from earlysift.trays import Tray
from helper import ALL, CLOSE, Maker, deep_paper, in_good_time, inner, lists_in, opening, own, spoil, text, words

NAMES = ["b", "a", "ab", "z", "abc", "open", "text", "abcdefghijkl"]


class Take(unittest.TestCase):
    """[17]"""

    def test_none_to_eight_questions(self):
        for seed in range(90):
            maker = Maker(seed)
            names = NAMES[:seed % 9]
            questions = {name: maker.steps(2) for name in names}
            signs = maker.signs(18)
            tray, sifts = Tray(), {name: Sift(questions[name]) for name in names}
            for name in names:
                self.assertIsNone(tray.put(name, questions[name]))
                self.assertEqual(tray.told(name), [])
            for sign in signs:
                told = tray.take(sign)
                self.assertIs(type(told), list)
                self.assertEqual(told, [(name, sifts[name].take(sign)) for name in names])
                self.check_kinds(told)
                for name in names:
                    self.assertEqual(tray.told(name), sifts[name].told())
            for name in names:
                self.assertEqual(tray.told(name), answers(stump(signs), questions[name]))

    def check_kinds(self, told):
        for pair in told:
            self.assertEqual((type(pair), type(pair[0]), type(pair[1])), (tuple, str, list))
        lists = [id(one) for one in lists_in(told)]
        self.assertEqual(len(lists), len(set(lists)))

    def test_in_the_order_in_which_they_were_put_in(self):
        tray = Tray()
        for name in NAMES:
            tray.put(name, ALL)
        self.assertEqual(tray.take(opening("a")), [(name, [0]) for name in NAMES])

    def test_the_same_question_under_two_names(self):
        question = [own("a", words("x"))]
        tray = Tray()
        tray.put("a", question)
        tray.put("b", question)
        tray.take(opening("a"))
        self.assertEqual(tray.take(text("x")), [("a", [0]), ("b", [0])])

    def test_without_questions(self):
        tray = Tray()
        self.refused(tray, [CLOSE, text("x")], 0)
        for sign in signs_of(("a", ["x", ("b", [])])):
            self.assertEqual(tray.take(sign), [])
        self.refused(tray, [CLOSE, text("x"), opening("a")], 5)

    def refused(self, tray, signs, at):
        for sign in signs:
            with self.assertRaises(NoSign) as caught:
                tray.take(sign)
            self.assertEqual(caught.exception.at, at)

    def test_a_sign_that_is_refused_is_not_taken(self):
        tray = Tray()
        tray.put("a", [inner("b")])
        self.refused(tray, [CLOSE, text("x"), CLOSE], 0)
        tray.put("b", ALL)
        self.assertEqual(tray.take(opening("a")), [("a", []), ("b", [0])])
        self.assertEqual(tray.take(opening("b")), [("a", [1]), ("b", [1])])
        tray.take(CLOSE)
        tray.take(CLOSE)
        self.refused(tray, [CLOSE, text("x"), opening("b")], 4)
        self.assertEqual((tray.told("a"), tray.told("b")), ([1], [0, 1]))

    def test_two_trays(self):
        first, second = Tray(), Tray()
        first.put("a", ALL)
        second.put("a", [inner("b")])
        first.take(opening("b"))
        self.assertEqual((first.told("a"), second.told("a")), ([0], []))
        second.put("b", ALL)


class Refusals(unittest.TestCase):
    def test_taken(self):
        tray = Tray()
        tray.put("a", [inner("b")])
        with self.assertRaises(Taken):
            tray.put("a", ALL)
        self.assertEqual(tray.take(opening("b")), [("a", [0])])
        tray = Tray()
        tray.put("a", [inner("b")])
        self.assertRaises(Taken, tray.put, "a", ALL)
        self.assertEqual(tray.take(opening("a")), [("a", [])])

    def test_late_ahead_of_taken(self):
        for end in [[], [CLOSE]]:
            tray = Tray()
            tray.put("a", ALL)
            for sign in [opening("a")] + end:
                tray.take(sign)
            for name in ["a", "b"]:
                with self.assertRaises(Late):
                    tray.put(name, ALL)
            self.assertRaises(NoPart, tray.told, "b")
            self.assertEqual(tray.told("a"), [0])

    def test_late_for_a_tray_without_questions(self):
        tray = Tray()
        tray.take(opening("a"))
        self.assertRaises(Late, tray.put, "a", ALL)

    def test_no_such_name(self):
        tray = Tray()
        self.assertRaises(NoPart, tray.told, "a")
        tray.put("ab", ALL)
        for name in ["a", "b", "abc"]:
            self.assertRaises(NoPart, tray.told, name)
        self.assertEqual(tray.told("ab"), [])


class Apart(unittest.TestCase):
    """[2]"""

    def test_what_was_handed_in_and_what_was_told_may_be_changed(self):
        for seed in range(60):
            maker = Maker(seed)
            question, signs = maker.steps(2), maker.signs(18)
            held = copy.deepcopy(question)
            tray, plain = Tray(), Sift(held)
            tray.put("a", question)
            tray.put("b", question)
            self.assertEqual(question, held)
            spoil(question)
            for sign in signs:
                told, fresh = tray.take(sign), plain.take(sign)
                self.assertEqual(told, [("a", fresh), ("b", fresh)])
                spoil(told)
                spoil(tray.told("a"))
                self.assertEqual(tray.told("a"), plain.told())


class Large(unittest.TestCase):
    def test_in_good_time(self):
        signs = signs_of(deep_paper(60, 400))
        tray = Tray()
        for place, name in enumerate(NAMES):
            tray.put(name, [inner("*") for _ in range(20 - place)])
        with in_good_time():
            for sign in signs:
                tray.take(sign)
        for place, name in enumerate(NAMES):
            self.assertEqual(tray.told(name), answers(stump(signs), [inner("*") for _ in range(20 - place)]))


if __name__ == "__main__":
    unittest.main()
