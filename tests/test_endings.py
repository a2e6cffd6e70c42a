import unittest

from earlysift.chains import Coming
from earlysift.endings import ending_for, filling, shortest_ending
from earlysift.facts import can_hold
from earlysift.papers import signs_of, stump
from earlysift.plain import answers, holds
from helper import (
    ANY, CLOSE, Maker, beginnings, both, check_ending, count_and_depth, deep_paper, has, in_good_time, inner, one,
    open_at_end, opening, own, spoil, steps_within_steps, text, words,
)


class Fillings(unittest.TestCase):
    def filled(self, wish):
        return stump([opening("a")] + filling(wish) + [CLOSE])

    def test_behind_it_the_wish_holds(self):
        filled = 0
        for seed in range(500):
            wish = Maker(seed).wish(3)
            if can_hold(wish):
                filled += 1
                self.assertTrue(holds(self.filled(wish), wish), wish)
        self.assertGreater(filled, 300)

    def test_the_edges(self):
        self.assertEqual(filling(ANY), [])
        self.assertEqual(filling(both()), [])
        self.assertEqual(filling(words("")), [text("")])
        self.assertEqual(filling(one(one(), both(one()), words("x"))), [text("x")])
        for wish in [has(own("a"), own("b"), own("c")), has(inner("*"), inner("*")), both(words("x"), words("y"))]:
            self.assertTrue(holds(self.filled(wish), wish))

    def test_names_are_names(self):
        for sign in filling(has(own("*"), inner("*", has(own("*"))))):
            self.assertTrue(sign == CLOSE or sign[1].islower(), sign)


class Endings(unittest.TestCase):
    """[16]"""

    def check(self, question, signs):
        """How many endings were told, for all beginnings of the signs."""
        coming, many = Coming(question), 0
        for begun in beginnings(signs):
            coming.feed(begun[-1])
            shortest = shortest_ending(coming)
            self.assertEqual(shortest, [CLOSE] * open_at_end(begun))
            self.assertFalse(set(coming.waits()) & set(answers(stump(begun + shortest), question)))
            for number in coming.waits():
                whole = check_ending(self, begun, ending_for(coming, number))
                self.assertIn(number, answers(whole, question), (question, begun))
                many += 1
        return many

    def test_each_part_that_waits_answers_behind_its_ending(self):
        many = sum(self.check(Maker(seed).steps(3), Maker(seed + 1000).signs(18)) for seed in range(900))
        self.assertGreater(many, 2000)

    def test_of_open_parts(self):
        paper = ("a", [("b", [("c", [])])])
        for wish in [words("x"), has(own("b", words("y"))), both(words("x"), words("y")), one(one(), has(inner("*")))]:
            for question in [[own("a", wish)], [own("a", wish), own("b", wish), own("c", wish)], [inner("c", wish)]]:
                self.assertGreater(self.check(question, signs_of(paper)), 0)

    def test_of_parts_that_have_closed(self):
        paper = ("a", [("b", [("c", [("d", []), "y"]), ("c", [])]), ("c", [])])
        for way in ["own", "inner"]:
            question = [own("a", words("x")), (way, "b", words("z")), (way, "c", ANY)]
            self.assertGreater(self.check(question, signs_of(paper)), 0)
        question = [inner("a", words("x")), inner("b", words("z")), inner("d")]
        self.assertGreater(self.check(question, signs_of(paper)), 0)

    def test_telling_changes_nothing(self):
        question = [inner("a", both(words("x"), has(own("b", words("y"))))), inner("*")]
        coming, other = Coming(question), Coming(question)
        for sign in signs_of(("a", [("b", [("a", [])]), ("b", ["y"]), "x", ("c", [])])):
            self.assertEqual(coming.feed(sign), other.feed(sign))
            for number in coming.waits():
                first = ending_for(coming, number)
                again = list(first)
                spoil(first)
                self.assertEqual(ending_for(coming, number), again)
            spoil(shortest_ending(coming))
            self.assertEqual(shortest_ending(coming), shortest_ending(other))
            self.assertEqual(coming.waits(), other.waits())


class Large(unittest.TestCase):
    """The bounds of [16] for what [4] and [11] let be handed in."""

    def check(self, question, signs):
        self.assertLessEqual(count_and_depth(question)[0], 40)
        with in_good_time():
            coming = Coming(question)
            for sign in signs:
                coming.feed(sign)
            waits = coming.waits()
            self.assertTrue(waits)
            for number in waits:
                whole = check_ending(self, signs, ending_for(coming, number))
                self.assertIn(number, answers(whole, question))

    def test_sixty_deep(self):
        signs = [opening("a") for _ in range(60)]
        for wish in [words("x"), has(*[own("b") for _ in range(18)]), has(*[inner("*") for _ in range(18)])]:
            self.check([inner("a", wish)], signs)
        self.check([inner("a", words("x")) for _ in range(20)], signs)
        self.check([inner("a", has(own("b", words("x")))) for _ in range(10)], signs)

    def test_forty_tuples_nested_twelve_deep(self):
        question = [inner("*") for _ in range(9)] + steps_within_steps(5, "z")
        self.assertEqual(count_and_depth(question), (40, 12))
        self.check(question, [opening("a") for _ in range(60)])
        self.check(question, [opening("a") for _ in range(20)] + [opening("z"), CLOSE] * 20)

    def test_the_last_beginnings_of_a_large_paper(self):
        signs = signs_of(deep_paper(60, 400))
        question = [inner("a", words("y")), inner("*", has(inner("*"))), inner("a")]
        for many in [10, 200, 400, len(signs) - 2]:
            self.check(question, signs[:many])

    def test_wide_wishes(self):
        wishes = [words(str(number)) for number in range(19)]
        wishes += [has(own("b", words(str(number)))) for number in range(6)]
        self.check([inner("a", both(*wishes))], [opening("a"), opening("b"), CLOSE, opening("a")])


if __name__ == "__main__":
    unittest.main()
