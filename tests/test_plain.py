import unittest

from earlysift.papers import many_parts, signs_of, stump
from earlysift.plain import answers, holds
from helper import (
    ALL, ANY, Maker, both, count_and_depth, deep_paper, depths_of, has, in_good_time, inner, keeps_apart, one, own,
    slow_answers, slow_holds, spoil, steps_within_steps, words,
)


class Holds(unittest.TestCase):
    def check(self, part, wish, truth):
        self.assertIs(holds(part, wish), truth)

    def test_any_always_holds(self):
        self.check(("a", []), ANY, True)
        self.check(("a", ["x", ("b", [])]), ANY, True)

    def test_text_holds_of_an_own_part_that_is_the_text(self):
        part = ("a", ["x", ("b", ["deep"]), "yz"])
        self.check(part, words("x"), True)
        self.check(part, words("yz"), True)
        for text in ["deep", "y", "z", "yzz", "", "a", "b", "X", "xyz"]:
            self.check(part, words(text), False)

    def test_text_of_no_signs(self):
        self.check(("a", [""]), words(""), True)
        self.check(("a", []), words(""), False)
        self.check(("a", ["x"]), words(""), False)
        self.check(("a", [("b", [""])]), words(""), False)

    def test_texts_are_no_patterns(self):
        self.check(("a", ["x"]), words("*"), False)
        self.check(("a", ["*"]), words("*"), True)
        self.check(("a", ["*"]), words("x"), False)

    def test_two_texts_side_by_side_are_not_one(self):
        self.check(("a", ["x", "y"]), words("xy"), False)

    def test_has_with_an_own_step(self):
        part = ("a", ["b", ("c", [("d", [])])])
        self.check(part, has(own("c")), True)
        self.check(part, has(own("*")), True)
        self.check(part, has(own("d")), False)
        self.check(part, has(own("a")), False)
        self.check(part, has(own("b")), False)

    def test_has_with_an_inner_step(self):
        part = ("a", [("b", [("c", [("d", [("e", [])])])])])
        for name in ["b", "c", "d", "e", "*"]:
            self.check(part, has(inner(name)), True)
        self.check(part, has(inner("a")), False)

    def test_a_part_does_not_stand_within_itself(self):
        self.check(("a", []), has(inner("*")), False)
        self.check(("a", []), has(own("*")), False)
        self.check(("a", [("a", [])]), has(inner("a", has(inner("a")))), False)

    def test_texts_are_no_tuples(self):
        self.check(("a", ["b", "*"]), has(own("*")), False)
        self.check(("a", ["b", "*"]), has(inner("b")), False)

    def test_has_with_several_steps(self):
        part = ("a", [("b", []), ("b", [("c", []), ("c", ["x"])])])
        self.check(part, has(own("b"), own("c")), True)
        self.check(part, has(own("b"), own("c", words("x"))), True)
        self.check(part, has(own("c"), own("b")), False)
        self.check(part, has(own("b"), own("c"), own("c")), False)
        self.check(part, has(own("b", words("x")), own("c")), False)

    def test_each_sort_of_both(self):
        part = ("a", ["x", "y"])
        self.check(part, both(), True)
        self.check(part, both(words("x")), True)
        self.check(part, both(words("z")), False)
        self.check(part, both(words("x"), words("y")), True)
        self.check(part, both(words("x"), words("z")), False)
        self.check(part, both(words("z"), words("x")), False)
        self.check(part, both(ANY, words("x"), words("y"), words("z")), False)

    def test_each_sort_of_one(self):
        part = ("a", ["x", "y"])
        self.check(part, one(), False)
        self.check(part, one(words("x")), True)
        self.check(part, one(words("z")), False)
        self.check(part, one(words("x"), words("y")), True)
        self.check(part, one(words("z"), words("y")), True)
        self.check(part, one(words("x"), words("z")), True)
        self.check(part, one(words("z"), words("w"), words("v")), False)

    def test_wishes_within_wishes(self):
        part = ("a", ["x", ("b", ["y"]), ("b", ["z"])])
        self.check(part, both(words("x"), one(words("q"), has(own("b", words("z"))))), True)
        self.check(part, both(words("x"), one(words("q"), has(own("b", words("x"))))), False)
        self.check(part, one(both(words("x"), one()), both(words("x"), both())), True)
        self.check(part, one(one(), one(one())), False)
        self.check(part, both(both(), both(both())), True)
        self.check(part, both(both(), one()), False)

    def test_a_wish_asks_all_of_one_and_the_same_part(self):
        part = ("a", [("b", ["y"]), ("b", ["z"])])
        self.check(part, has(own("b", both(words("y"), words("z")))), False)
        self.check(part, both(has(own("b", words("y"))), has(own("b", words("z")))), True)

    def test_a_has_within_a_has(self):
        part = ("a", [("b", [("c", [("d", ["x"])])]), ("b", [("d", [])])])
        self.check(part, has(own("b", has(own("c", has(own("d", words("x"))))))), True)
        self.check(part, has(own("b", has(own("d", words("x"))))), False)
        self.check(part, has(own("b", has(inner("d", words("x"))))), True)

    def test_like_the_plain_reading(self):
        for seed in range(400):
            maker = Maker(seed)
            part, wish = stump(maker.signs(25)), maker.wish(3)
            self.check(part, wish, slow_holds(part, wish))

    def test_nothing_handed_in_is_changed(self):
        part = ("a", ["x", ("b", ["y"])])
        wish = both(words("x"), one(one(), has(own("b", words("y")), )))
        self.assertIs(keeps_apart(self, holds, part, wish), True)
        part[1][1][1].clear()
        self.assertIs(keeps_apart(self, holds, part, wish), False)
        wish[1].pop()
        self.assertIs(keeps_apart(self, holds, part, wish), True)


class Answers(unittest.TestCase):
    def check(self, paper, question, numbers):
        self.assertEqual(answers(paper, question), numbers)

    def test_numbers_come_by_openings_and_texts_have_none(self):
        paper = ("a", ["x", ("b", ["y", ("c", []), "z"]), "", ("c", [("b", [])])])
        self.check(paper, ALL, [0, 1, 2, 3, 4])
        self.check(paper, [inner("b")], [1, 4])
        self.check(paper, [inner("c")], [2, 3])

    def test_the_paper_itself_can_answer(self):
        paper = ("a", [("a", [])])
        self.check(paper, [own("a")], [0])
        self.check(paper, [own("*")], [0])
        self.check(paper, [inner("a")], [0, 1])
        self.check(paper, [own("b")], [])
        self.check(("a", []), [own("a")], [0])

    def test_nothing_but_the_paper_is_an_own_part_at_first(self):
        self.check(("a", [("b", []), ("b", [])]), [own("b")], [])

    def test_ways(self):
        paper = ("a", [("b", [("b", [("c", [])])]), ("c", [])])
        self.check(paper, [own("a"), own("b")], [1])
        self.check(paper, [own("a"), inner("b")], [1, 2])
        self.check(paper, [own("a"), own("c")], [4])
        self.check(paper, [own("a"), inner("c")], [3, 4])
        self.check(paper, [inner("b"), own("b")], [2])
        self.check(paper, [inner("b"), inner("*")], [2, 3])

    def test_an_inner_step_passes_over_several_depths(self):
        paper = ("a", [("b", [("c", [("d", [("e", [("f", [])])])])])])
        self.check(paper, [own("a"), inner("e")], [4])
        self.check(paper, [own("a"), inner("e"), own("f")], [5])
        self.check(paper, [inner("b"), inner("f")], [5])
        self.check(paper, [inner("f"), inner("b")], [])
        self.check(paper, [own("a"), own("e")], [])

    def test_a_part_is_not_within_itself(self):
        self.check(("a", []), [inner("a"), inner("a")], [])
        self.check(("a", [("a", [("a", [])])]), [inner("a"), inner("a")], [1, 2])
        self.check(("a", [("a", [("a", [])])]), [inner("a"), inner("a"), inner("a")], [2])

    def test_what_stands_beside_is_not_within(self):
        paper = ("a", [("b", []), ("c", []), ("b", [("d", [])]), ("c", [])])
        self.check(paper, [inner("b"), inner("*")], [4])
        self.check(paper, [inner("b"), inner("c")], [])

    def test_a_name_and_any_name(self):
        paper = ("a", [("b", []), ("c", [("b", [])])])
        self.check(paper, [own("*"), own("b")], [1])
        self.check(paper, [own("*"), own("*")], [1, 2])
        self.check(paper, [own("*"), own("*"), own("*")], [3])

    def test_names_of_which_one_begins_another(self):
        paper = ("ab", [("a", []), ("abc", []), ("ab", []), ("b", [])])
        self.check(paper, [inner("a")], [1])
        self.check(paper, [inner("ab")], [0, 3])
        self.check(paper, [inner("abc")], [2])
        self.check(paper, [inner("b")], [4])
        self.check(paper, [inner("c")], [])
        self.check(paper, [inner("abcd")], [])

    def test_names_like_those_of_signs_and_wishes(self):
        paper = ("any", [("text", ["open"]), ("open", ["text"]), ("close", [("own", [])]), "close"])
        self.check(paper, [own("any"), own("text", words("open"))], [1])
        self.check(paper, [inner("open")], [2])
        self.check(paper, [inner("close"), own("own")], [4])
        self.check(paper, [inner("*", words("close"))], [0])

    def test_wishes_at_each_step(self):
        paper = ("a", [("b", ["x", ("c", [])]), ("b", ["y", ("c", ["z"])])])
        self.check(paper, [own("a"), own("b", words("y")), own("c")], [4])
        self.check(paper, [own("a"), own("b"), own("c", words("z"))], [4])
        self.check(paper, [own("a", words("x")), own("b")], [])
        self.check(paper, [own("a", has(own("b", words("x")))), own("b"), own("c")], [2, 4])
        self.check(paper, [inner("b", has(own("c", words("z"))))], [3])
        self.check(paper, [inner("*", one(words("x"), words("z")))], [1, 4])
        self.check(paper, [inner("*", both(words("y"), has(own("c"))))], [3])
        self.check(paper, [inner("*", one())], [])
        self.check(paper, [inner("*", both())], [0, 1, 2, 3, 4])

    def test_steps_may_pass_parts_that_lead_nowhere(self):
        paper = ("a", [("b", [("b", [("c", [("d", [])])]), ("c", [])])])
        self.check(paper, [inner("b"), own("c"), own("d")], [4])
        self.check(paper, [inner("b"), own("c")], [3, 5])

    def test_equal_parts_answer_each_by_itself(self):
        leaf = ("b", ["x"])
        paper = ("a", [leaf, ("c", [leaf]), ("b", ["x"]), leaf])
        self.check(paper, [own("a"), own("b", words("x"))], [1, 4, 5])
        self.check(paper, [inner("b")], [1, 3, 4, 5])
        self.check(paper, [inner("c"), own("b")], [3])

    def test_rising_and_each_once_though_they_answer_in_many_ways(self):
        paper = ("a", [("a", [("a", [("b", []), ("a", [("b", [])])]), ("b", [])])])
        self.check(paper, [inner("a"), inner("b")], [3, 5, 6])
        self.check(paper, [inner("a"), inner("a"), inner("*")], [2, 3, 4, 5, 6])
        self.check(paper, [inner("*"), inner("*")], [1, 2, 3, 4, 5, 6])
        wish = one(ANY, ANY, has(inner("b")), has(own("b")))
        self.check(paper, [inner("a", wish), inner("b", one(ANY, ANY))], [3, 5, 6])

    def test_steps_go_by_depth_and_numbers_still_rise(self):
        paper = ("a", [("b", [("c", [("b", [])])]), ("b", []), ("c", [("b", [])])])
        self.check(paper, [inner("b")], [1, 3, 4, 6])
        self.check(paper, [inner("c"), own("b")], [3, 6])

    def test_no_part_answers(self):
        told = answers(("a", ["x"]), [inner("b")])
        self.assertEqual(told, [])
        self.assertIsInstance(told, list)

    def test_numbers_are_whole_numbers(self):
        told = answers(("a", [("b", [])]), ALL)
        self.assertEqual([type(number) for number in told], [int, int])

    def test_a_second_asking_tells_the_same(self):
        paper, question = ("a", [("b", []), ("b", [])]), [own("a"), own("b")]
        first = answers(paper, question)
        first.append(7)
        first[0] = 9
        self.check(paper, question, [1, 2])
        empty = answers(paper, [own("b")])
        empty.append(3)
        self.check(paper, [own("b")], [])
        self.check(paper, [own("c")], [])

    def test_nothing_handed_in_is_changed(self):
        paper = ("a", ["x", ("b", ["y"]), ("b", [("c", ["z"])])])
        question = [own("a", both(words("x"), has(inner("c"), ))), inner("b", one(words("y"), has(own("c", words("z")))))]
        told = keeps_apart(self, answers, paper, question)
        self.assertEqual(told, [1, 2])
        spoil(told)
        self.assertEqual(keeps_apart(self, answers, paper, question), [1, 2])

    def test_what_was_handed_in_may_change_between_askings(self):
        paper, question = ("a", [("b", [])]), [own("a"), own("b")]
        told = answers(paper, question)
        paper[1].append(("b", []))
        self.assertEqual(told, [1])
        self.check(paper, question, [1, 2])
        question.pop()
        self.check(paper, question, [0])

    def test_like_the_plain_reading(self):
        for seed in range(600):
            maker = Maker(seed)
            paper, question = stump(maker.signs(25)), maker.steps(3)
            self.check(paper, question, slow_answers(paper, question))

    def test_all_parts_are_numbered_from_0(self):
        for seed in range(60):
            paper = stump(Maker(seed).signs(40))
            self.check(paper, ALL, list(range(many_parts(paper))))


class InStumps(unittest.TestCase):
    def test_what_answers_in_a_stump_answers_in_the_papers_that_begin_with_it(self):
        answered = 0
        for seed in range(150):
            maker = Maker(seed)
            question, signs = maker.steps(2), maker.signs(25)
            ahead = []
            for many in range(1, len(signs) + 1):
                now = answers(stump(signs[:many]), question)
                self.assertEqual(sorted(set(ahead) - set(now)), [])
                ahead = now
            self.assertEqual(ahead, answers(stump(signs), question))
            answered += len(ahead)
        self.assertGreater(answered, 0)

    def test_sign_by_sign(self):
        signs = signs_of(("a", [("b", [("c", ["x"])]), ("c", [])]))
        question = [inner("*", has(inner("c", words("x"))))]
        told = [answers(stump(signs[:many]), question) for many in range(1, len(signs) + 1)]
        self.assertEqual(told, [[], [], [], [0, 1], [0, 1], [0, 1], [0, 1], [0, 1], [0, 1]])


class Large(unittest.TestCase):
    def setUp(self):
        self.paper = deep_paper(60, 400)
        self.depths = depths_of(self.paper)
        signs = signs_of(self.paper)
        self.assertEqual(len([sign for sign in signs if sign[0] != "close"]), 400)
        self.assertEqual(max(self.depths), 60)
        names = [sign[1] for sign in signs if sign[0] == "open"]
        self.z = names.index("z")
        self.assertEqual(self.depths[self.z], 60)

    def deeper_than(self, depth):
        return [number for number, here in enumerate(self.depths) if here > depth]

    def above_z(self, least, most):
        """The tuples above z at these depths: of each depth the last one ahead of z."""
        chain = {here: number for number, here in enumerate(self.depths[:self.z])}
        return [chain[depth] for depth in range(least, most + 1)]

    def check(self, question, size, numbers):
        self.assertEqual(count_and_depth(question), size)
        with in_good_time():
            self.assertEqual(answers(self.paper, question), numbers)

    def test_many_inner_steps(self):
        self.check([inner("*") for _ in range(20)], (40, 2), self.deeper_than(19))
        self.check([inner("a") for _ in range(19)] + [inner("y")], (40, 2), [])
        self.check([inner("a") for _ in range(19)] + [inner("z")], (40, 2), [self.z])

    def test_steps_nested_deep(self):
        ahead = [inner("*") for _ in range(9)]
        self.check(ahead + steps_within_steps(5, "y"), (40, 12), [])
        self.check(ahead + steps_within_steps(5, "z"), (40, 12), self.above_z(11, 51))

    def test_wishes_nested_deep(self):
        for text, numbers in [("end", self.above_z(1, 59)), ("y", [])]:
            wish = has(inner("*", words(text)))
            for _ in range(4):
                wish = both(one(wish, has(own("y"))), ANY)
            self.check([inner("*", wish)], (28, 12), numbers)

    def test_a_wish_of_many_wishes(self):
        wishes = [has(inner("*"), inner("*"), inner("*", words("y"))) for _ in range(5)]
        self.check([inner("*", one(*wishes, ANY, ANY))], (39, 5), list(range(len(self.depths))))
        self.check([inner("*", one(*wishes))], (37, 5), [])

    def test_holds_too(self):
        wish = has(*[inner("*") for _ in range(9)], *steps_within_steps(5, "y"))
        with in_good_time():
            self.assertIs(holds(self.paper, wish), False)
        wish = has(*[inner("*") for _ in range(9)], *steps_within_steps(5, "z"))
        with in_good_time():
            self.assertIs(holds(self.paper, wish), True)

    def test_somewhat_beyond(self):
        paper = deep_paper(70, 450)
        question = [inner("*") for _ in range(22)]
        with in_good_time():
            numbers = [number for number, here in enumerate(depths_of(paper)) if here > 21]
            self.assertEqual(answers(paper, question), numbers)

    def test_a_wide_paper(self):
        paper = ("a", [("b", ["x"]) for _ in range(199)])
        with in_good_time():
            self.assertEqual(answers(paper, [own("a"), own("b", words("x"))]), list(range(1, 200)))


if __name__ == "__main__":
    unittest.main()
