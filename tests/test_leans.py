import copy
import unittest

from earlysift.errors import NoSign
from earlysift.leans import Lean, woken
from earlysift.papers import signs_of
from earlysift.sifts import Sift
from helper import (
    ALL, CLOSE, Maker, count_and_depth, deep_paper, has, in_good_time, inner, keeps_apart, lists_in, opening, own,
    spoil, steps_within_steps, text, words,
)

WRONG = [CLOSE, text("x"), opening("a")]


def cases(many, deep=3, length=18):
    for seed in range(many):
        maker = Maker(seed)
        yield maker.steps(deep), maker.signs(length)


def pieces(thing):
    """How many pieces stand in a tuple or list, those within them besides."""
    return sum(1 + (pieces(piece) if isinstance(piece, (tuple, list)) else 0) for piece in thing)


class Beside(unittest.TestCase):
    """[23]: a lean sift tells what a sift tells."""

    def test_with_each_sign(self):
        for question, signs in cases(500):
            lean, sift = Lean(question), Sift(question)
            self.assertEqual((lean.waiting(), lean.is_over()), ([], False))
            for sign in signs:
                self.assertEqual(lean.take(sign), sift.take(sign))
                self.assertEqual(lean.waiting(), sift.waiting())
                self.assertIs(lean.is_over(), sift.is_over())

    def test_it_refuses_as_a_sift_does(self):
        lean = Lean(ALL)
        for many, sign in enumerate([opening("a"), opening("b"), text("x"), CLOSE, CLOSE]):
            wrong = WRONG[:2] if many == 0 else []
            self.refused(lean, wrong, many)
            lean.take(sign)
        self.refused(lean, WRONG, 5)

    def refused(self, lean, wrong, at):
        for sign in wrong:
            before = lean.asleep()
            with self.assertRaises(NoSign) as caught:
                lean.take(sign)
            self.assertEqual(caught.exception.at, at)
            self.assertEqual(lean.asleep(), before)


class Asleep(unittest.TestCase):
    """[23]: the value."""

    def check_row(self, row, most):
        self.assertIs(type(row), tuple)
        self.assertLessEqual(pieces(row), most)
        self.check_pieces(row)

    def check_pieces(self, row):
        for piece in row:
            self.assertIn(type(piece), (int, str, tuple, list))
            if type(piece) in (tuple, list):
                self.check_pieces(piece)

    def check(self, question, lean, signs):
        value = lean.asleep()
        self.assertIs(type(value), tuple)
        taken, opened, rows, rests = value
        self.assertEqual((type(taken), type(opened), type(rows), type(rests)), (int, int, list, list))
        numbers = [-1]
        count = 0
        for sign in signs:
            if sign[0] == "open":
                numbers.append(count)
                count += 1
            elif sign[0] == "close":
                numbers.pop()
        self.assertEqual((taken, opened), (len(signs), count))
        self.assertEqual([row[0] for row in rows], numbers[1:])
        waiting = [number for number in lean.waiting() if number not in numbers]
        self.assertEqual([rest[0] for rest in rests], waiting)
        for row in rows + rests:
            self.check_row(row, 8 * count_and_depth(question)[0] + 8)
        told = [id(one) for one in lists_in(value)]
        self.assertEqual(len(told), len(set(told)))

    def test_ahead_of_any_sign_and_behind_each(self):
        kept = 0
        for question, signs in cases(500):
            lean = Lean(question)
            self.assertEqual(lean.asleep(), (0, 0, [], []))
            self.check(question, lean, [])
            for many, sign in enumerate(signs):
                lean.take(sign)
                self.check(question, lean, signs[:many + 1])
                kept += len(lean.asleep()[3])
            self.assertEqual(lean.asleep()[2:], ([], []))
        self.assertGreater(kept, 200)

    def test_of_parts_that_have_closed_and_do_not_wait_nothing_is_kept(self):
        question = [own("a", words("x")), own("b", words("y"))]
        lean = Lean(question)
        lean.take(opening("a"))
        begun = lean.asleep()
        for _ in range(50):
            for sign in signs_of(("b", ["z", ("b", ["y"])])):
                lean.take(sign)
        value = lean.asleep()
        self.assertEqual((value[2], value[3]), (begun[2], []))

    def test_telling_changes_nothing(self):
        for question, signs in cases(100):
            lean, plain = Lean(question), Lean(question)
            for sign in signs:
                self.assertEqual(lean.take(sign), plain.take(sign))
                value = lean.asleep()
                spoil(value)
                self.assertEqual(lean.asleep(), plain.asleep())
                self.assertEqual(lean.waiting(), plain.waiting())

    def test_the_smallest_question(self):
        question = [own("a")]
        lean = Lean(question)
        for many, sign in enumerate([opening("a"), opening("b"), text("x")]):
            lean.take(sign)
            self.check(question, lean, [opening("a"), opening("b"), text("x")][:many + 1])


class Woken(unittest.TestCase):
    """[24]"""

    def go_on(self, lean, signs):
        told = []
        for sign in signs:
            told.append((lean.take(sign), lean.waiting(), lean.is_over(), lean.asleep()))
        for sign in WRONG:
            with self.assertRaises(NoSign) as caught:
                lean.take(sign)
            told.append(caught.exception.at)
        return told

    def test_it_goes_on_alike(self):
        for question, signs in cases(200, 3, 14):
            lean, values = Lean(question), []
            values.append(lean.asleep())
            for sign in signs:
                lean.take(sign)
                values.append(lean.asleep())
            told = self.go_on(Lean(question), signs)
            for many, value in enumerate(values):
                before = copy.deepcopy(value)
                other = woken(copy.deepcopy(question), value)
                self.assertEqual((other.asleep(), value), (before, before))
                self.assertEqual(self.go_on(other, signs[many:]), told[many:])
                self.assertEqual(value, before)

    def test_by_other_signs_too(self):
        for question, signs in cases(100, 3, 12):
            other = Maker(len(signs)).signs(12)[1:]
            for many in range(1, len(signs)):
                lean = Lean(question)
                for sign in signs[:many]:
                    lean.take(sign)
                self.same(lean, woken(question, lean.asleep()), other)

    def same(self, lean, other, signs):
        for sign in signs:
            results = []
            for one in [lean, other]:
                try:
                    results.append(one.take(sign))
                except NoSign as error:
                    results.append(("refused", error.at))
            self.assertEqual(results[0], results[1])
            self.assertEqual(lean.asleep(), other.asleep())
            self.assertEqual((lean.waiting(), lean.is_over()), (other.waiting(), other.is_over()))

    def test_from_an_equal_value_and_twice_from_the_same(self):
        for question, signs in cases(80, 3, 14):
            half = len(signs) // 2
            lean = Lean(question)
            for sign in signs[:half]:
                lean.take(sign)
            value = lean.asleep()
            built = copy.deepcopy(value)
            ones = [woken(question, value), woken(question, value), woken(question, built)]
            told = [self.go_on(one, signs[half:]) for one in ones]
            self.assertEqual(told[0], told[1])
            self.assertEqual(told[0], told[2])
            self.assertEqual(told[0], self.go_on(lean, signs[half:]))

    def test_asleep_and_woken_behind_each_sign(self):
        for question, signs in cases(150):
            lean, sift = Lean(question), Sift(question)
            for sign in signs:
                lean = woken(question, lean.asleep())
                self.assertEqual(lean.take(sign), sift.take(sign))
                self.assertEqual(lean.waiting(), sift.waiting())

    def test_nothing_of_the_value_or_the_question_is_held(self):
        for question, signs in cases(60):
            half = len(signs) // 2
            lean = Lean(question)
            for sign in signs[:half]:
                lean.take(sign)
            value, handed = lean.asleep(), copy.deepcopy(question)
            other = woken(handed, value)
            spoil(handed)
            spoil(value)
            self.assertEqual(self.go_on(other, signs[half:]), self.go_on(lean, signs[half:]))

    def test_handed_in_and_told_share_no_list(self):
        question = [own("a", words("x")), inner("b", has(own("c")))]
        lean = Lean(question)
        for sign in [opening("a"), opening("b"), opening("c"), CLOSE, CLOSE, opening("b")]:
            lean.take(sign)
        value = lean.asleep()
        self.assertEqual(keeps_apart(self, lambda one, two: woken(one, two).asleep(), question, value), value)


class Large(unittest.TestCase):
    """[4], [11]"""

    def test_in_good_time(self):
        signs = signs_of(deep_paper(60, 400))
        for question in [
            [inner("*") for _ in range(9)] + steps_within_steps(5, "z"),
            [inner("a", words("y"))] + [inner("*") for _ in range(19)],
        ]:
            with in_good_time():
                lean, sift = Lean(question), Sift(question)
                for sign in signs:
                    lean = woken(question, lean.asleep())
                    self.assertEqual(lean.take(sign), sift.take(sign))
                    self.assertEqual(lean.waiting(), sift.waiting())


if __name__ == "__main__":
    unittest.main()
