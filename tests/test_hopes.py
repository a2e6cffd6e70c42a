import unittest

from earlysift.chains import Coming
from earlysift.hopes import hope_of, outlook_of
from earlysift.papers import signs_of, stump
from earlysift.plain import answers
from helper import (
    ANY, CLOSE, Maker, beginnings, both, check_ending, count_and_depth, deep_steps, has, in_good_time, inner,
    most_of, one, opening, own, spoil, steps_within_steps, text, ways_on, words,
)


def came(question, signs):
    coming = Coming(question)
    for sign in signs:
        coming.feed(sign)
    return coming


class Outlooks(unittest.TestCase):
    """[22]"""

    def check(self, question, signs, outlook):
        coming, is_sure = came(question, signs), answers(stump(signs), question) != []
        self.assertEqual(outlook_of(coming, is_sure), outlook, (question, signs))
        hope = hope_of(coming, is_sure)
        if outlook == "lost":
            self.assertIsNone(hope)
        else:
            self.assertTrue(answers(check_ending(self, signs, hope), question), (question, signs))

    def test_sure(self):
        self.check([own("a")], [opening("a")], "sure")
        self.check([own("a")], [opening("a"), CLOSE], "sure")
        self.check([inner("b", words("x"))], [opening("a"), opening("b"), text("x"), CLOSE], "sure")
        self.check([own("*", both())], [opening("a")], "sure")

    def test_lost_as_the_first_part_has_another_name(self):
        self.check([own("b")], [opening("a")], "lost")
        self.check([own("b"), inner("*")], [opening("a")], "lost")
        self.check([inner("b")], [opening("a")], "open")

    def test_behind_the_close_of_the_first_part(self):
        signs = [opening("a"), opening("b"), CLOSE, CLOSE]
        self.check([inner("b")], signs, "sure")
        self.check([inner("c")], signs, "lost")
        self.check([inner("b", words("x"))], signs, "lost")
        self.check([inner("b", words("x"))], signs[:3], "open")

    def test_wishes_that_can_never_hold(self):
        for wish in [one(), both(one(), ANY), has(own("b", one())), one(one())]:
            self.check([inner("*", wish)], [opening("a")], "lost")
            self.check([inner("*"), inner("*", wish)], [opening("a")], "lost")
            self.check([inner("*", wish), inner("*")], [opening("a")], "lost")
            self.check([inner("*", one(wish, words("x")))], [opening("a")], "open")

    def test_a_part_that_is_not_open_yet(self):
        self.check([own("a"), own("b")], [opening("a")], "open")
        self.check([own("a"), own("b"), own("c", words("x"))], [opening("a"), opening("c"), opening("b")], "open")
        self.check([own("a", words("x")), own("b"), inner("c")], [opening("a")], "open")
        self.check([own("a", words("x")), inner("b", words("y")), own("c")], [opening("a"), opening("d")], "open")
        self.check([own("*"), own("*"), own("*"), own("*"), own("*")], [opening("a"), opening("b"), CLOSE], "open")

    def test_a_part_that_has_closed(self):
        signs = [opening("a"), opening("b"), CLOSE]
        self.check([own("a", words("x")), own("b")], signs, "open")
        self.check([own("a", words("x")), own("b")], signs + [CLOSE], "lost")
        self.check([own("a", words("x")), own("b")], signs + [text("x")], "sure")

    def test_all_ways_to_go_on(self):
        rows = [[opening("a")], [opening("b")], [opening("a"), opening("b"), CLOSE], [opening("a"), opening("b")],
                [opening("a"), opening("a"), CLOSE, CLOSE], [opening("b"), opening("a"), text("x"), CLOSE]]
        wishes = [ANY, both(), one(), words("x"), has(own("b")), both(one(), words("x")), one(one(), words("x"))]
        for signs in rows:
            papers = [stump(on) for on in ways_on(signs, 4)]
            for wish in wishes:
                for question in [[own("a", wish)], [own("*", wish), own("b")], [inner("b", wish)]]:
                    found = any(answers(paper, question) for paper in papers)
                    sure = answers(stump(signs), question) != []
                    self.check(question, signs, "sure" if sure else "open" if found else "lost")

    def test_with_everything_that_could_come(self):
        seen = {"sure": 0, "open": 0, "lost": 0}
        for seed in range(400):
            maker = Maker(seed)
            question, signs = maker.steps(2), maker.signs(12)
            deep = deep_steps(question)
            if deep > 4:
                continue
            for begun in beginnings(signs):
                outlook = "sure"
                if not answers(stump(begun), question):
                    outlook = "open" if answers(stump(most_of(begun, question, deep)), question) else "lost"
                self.check(question, begun, outlook)
                seen[outlook] += 1
        self.assertGreater(min(seen.values()), 300)

    def test_behind_each_hope_some_part_answers(self):
        for seed in range(300):
            maker = Maker(seed)
            question, signs = maker.steps(3), maker.signs(15)
            for begun in beginnings(signs):
                is_sure = answers(stump(begun), question) != []
                self.check(question, begun, outlook_of(came(question, begun), is_sure))

    def test_telling_changes_nothing(self):
        question = [own("a", words("x")), own("b", has(own("c")))]
        coming, other = Coming(question), Coming(question)
        told = False
        for sign in signs_of(("a", [("b", []), ("b", [("c", [])]), "x"])):
            fresh = coming.feed(sign)
            self.assertEqual(fresh, other.feed(sign))
            told = told or fresh != []
            hope = hope_of(coming, told)
            if hope is not None:
                again = list(hope)
                spoil(hope)
                self.assertEqual(hope_of(coming, told), again)
            self.assertEqual(coming.waits(), other.waits())


class Large(unittest.TestCase):
    """The bounds of [22] for what [4] and [11] let be handed in."""

    def check(self, question, signs):
        self.assertLessEqual(count_and_depth(question)[0], 40)
        with in_good_time():
            coming = came(question, signs)
            self.assertEqual(outlook_of(coming, False), "open")
            whole = check_ending(self, signs, hope_of(coming, False))
            self.assertTrue(answers(whole, question))

    def test_sixty_deep(self):
        signs = [opening("a") for _ in range(60)]
        self.check([own("a") for _ in range(20)], signs[:1])
        self.check([inner("b") for _ in range(20)], signs)
        self.check([inner("a", words("x")) for _ in range(19)] + [inner("b")], signs)
        self.check([inner("*", has(*[own("b") for _ in range(18)]))], signs)

    def test_nested_twelve_deep(self):
        question = [inner("*") for _ in range(9)] + steps_within_steps(5, "z")
        self.assertEqual(count_and_depth(question), (40, 12))
        self.check(question, [opening("a")])
        self.check(question, [opening("a") for _ in range(60)])


if __name__ == "__main__":
    unittest.main()
