import unittest

from earlysift.errors import Late, NoPart, NoSign, NoText, SiftError, Taken
from earlysift.papers import many_parts, signs_of, stump
from helper import CLOSE, Maker, in_good_time, keeps_apart, open_at_end, opening, spoil, text


class SignsOf(unittest.TestCase):
    def test_a_tuple(self):
        part = ("a", ["x", ("b", ["y"]), "z"])
        signs = [opening("a"), text("x"), opening("b"), text("y"), CLOSE, text("z"), CLOSE]
        self.assertEqual(signs_of(part), signs)

    def test_a_tuple_with_no_parts(self):
        self.assertEqual(signs_of(("a", [])), [opening("a"), CLOSE])
        self.assertEqual(signs_of(("a", [("b", [])])), [opening("a"), opening("b"), CLOSE, CLOSE])

    def test_a_text(self):
        self.assertEqual(signs_of("xy z"), [text("xy z")])

    def test_the_text_of_no_signs(self):
        self.assertEqual(signs_of(""), [text("")])
        self.assertEqual(signs_of(("a", [""])), [opening("a"), text(""), CLOSE])

    def test_two_texts_side_by_side_are_two_signs(self):
        self.assertEqual(signs_of(("a", ["x", "x"])), [opening("a"), text("x"), text("x"), CLOSE])
        self.assertEqual(signs_of(("a", ["", ""])), [opening("a"), text(""), text(""), CLOSE])
        self.assertEqual(signs_of(("a", ["x", "y"])), [opening("a"), text("x"), text("y"), CLOSE])

    def test_the_parts_come_in_their_order(self):
        part = ("a", [("c", []), ("b", []), ("c", ["2"]), "1"])
        signs = [opening("a"), opening("c"), CLOSE, opening("b"), CLOSE, opening("c"), text("2"), CLOSE, text("1"), CLOSE]
        self.assertEqual(signs_of(part), signs)

    def test_names_and_texts_that_look_like_signs(self):
        part = ("open", [("close", ["open"]), ("text", ["close", "text"])])
        signs = [opening("open"), opening("close"), text("open"), CLOSE]
        signs += [opening("text"), text("close"), text("text"), CLOSE, CLOSE]
        self.assertEqual(signs_of(part), signs)

    def test_one_part_standing_at_two_places(self):
        leaf = ("b", ["x"])
        signs = [opening("b"), text("x"), CLOSE]
        self.assertEqual(signs_of(("a", [leaf, leaf])), [opening("a")] + signs + signs + [CLOSE])

    def test_longest_names_and_texts(self):
        words = " !\"#$&'()*+,-./0123456789:;<=>?@AZ[\\]^_`az{|}~" + "x" * 14
        self.assertEqual(len(words), 60)
        part = ("abcdefghijkl", [words])
        self.assertEqual(signs_of(part), [opening("abcdefghijkl"), text(words), CLOSE])
        self.assertEqual(stump(signs_of(part)), part)

    def test_nothing_handed_in_is_changed_or_shared(self):
        part = ("a", ["x", ("b", []), ("b", [])])
        told = keeps_apart(self, signs_of, part)
        self.assertIsInstance(told, list)
        self.assertTrue(all(isinstance(sign, tuple) for sign in told))
        again = list(told)
        spoil(told)
        self.assertEqual(signs_of(part), again)
        part[1].append("y")
        self.assertEqual(signs_of(part), again[:-1] + [text("y"), CLOSE])
        keeps_apart(self, signs_of, "x")


class Stump(unittest.TestCase):
    def test_each_beginning(self):
        signs = signs_of(("a", ["x", ("b", ["y", ""]), ("b", []), "x"]))
        stumps = [
            ("a", []),
            ("a", ["x"]),
            ("a", ["x", ("b", [])]),
            ("a", ["x", ("b", ["y"])]),
            ("a", ["x", ("b", ["y", ""])]),
            ("a", ["x", ("b", ["y", ""])]),
            ("a", ["x", ("b", ["y", ""]), ("b", [])]),
            ("a", ["x", ("b", ["y", ""]), ("b", [])]),
            ("a", ["x", ("b", ["y", ""]), ("b", []), "x"]),
            ("a", ["x", ("b", ["y", ""]), ("b", []), "x"]),
        ]
        self.assertEqual([stump(signs[:many]) for many in range(1, len(signs) + 1)], stumps)

    def test_parts_go_into_the_innermost_open_one(self):
        signs = [opening("a"), opening("b"), opening("c"), CLOSE, text("x"), CLOSE, text("y"), opening("d")]
        self.assertEqual(stump(signs), ("a", [("b", [("c", []), "x"]), "y", ("d", [])]))

    def test_texts_side_by_side_stay_two(self):
        self.assertEqual(stump([opening("a"), text("x"), text("x"), text("")]), ("a", ["x", "x", ""]))

    def test_of_all_the_signs_it_is_the_paper(self):
        for seed in range(100):
            signs = Maker(seed).signs(30)
            paper = stump(signs)
            self.assertEqual(signs_of(paper), signs)
            self.assertEqual(stump(signs_of(paper)), paper)

    def test_of_each_beginning_the_open_parts_are_closed_at_once(self):
        for seed in range(60):
            signs = Maker(seed).signs(30)
            for many in range(1, len(signs) + 1):
                begun = signs[:many]
                self.assertEqual(signs_of(stump(begun)), begun + [CLOSE] * open_at_end(begun))

    def test_kinds(self):
        paper = stump([opening("a"), opening("b"), text("x")])
        self.assertIsInstance(paper, tuple)
        self.assertIsInstance(paper[1], list)
        self.assertIsInstance(paper[1][0], tuple)
        self.assertIsInstance(paper[1][0][1], list)

    def test_nothing_handed_in_is_changed_or_shared(self):
        signs = [opening("a"), opening("b"), CLOSE, opening("b"), CLOSE, text("x"), opening("c")]
        paper = ("a", [("b", []), ("b", []), "x", ("c", [])])
        told = keeps_apart(self, stump, signs)
        self.assertEqual(told, paper)
        spoil(told)
        self.assertEqual(keeps_apart(self, stump, signs), paper)
        kept = stump(signs)
        signs.append(text("y"))
        self.assertEqual(kept, paper)
        self.assertEqual(stump(signs), ("a", [("b", []), ("b", []), "x", ("c", ["y"])]))

    def test_a_large_and_deep_row_of_signs(self):
        for deep, many in [(60, 400), (70, 450)]:
            signs = [opening("a")] * deep + [text("x")] * (many - deep) + [CLOSE] * deep
            with in_good_time():
                paper = stump(signs)
                self.assertEqual(signs_of(paper), signs)
                self.assertEqual(many_parts(paper), deep)


class Refused(unittest.TestCase):
    def refused_at(self, signs, at):
        before = list(signs)
        with self.assertRaises(NoSign) as caught:
            stump(signs)
        error = caught.exception
        self.assertEqual(error.at, at)
        self.assertIs(type(error.at), int)
        self.assertIsInstance(error, SiftError)
        self.assertIsInstance(error, ValueError)
        for other in (NoText, NoPart, Taken, Late):
            self.assertNotIsInstance(error, other)
        self.assertEqual(signs, before)

    def test_a_close_or_a_text_ahead_of_the_first_opening(self):
        self.refused_at([CLOSE], 0)
        self.refused_at([text("x")], 0)
        self.refused_at([text("")], 0)
        self.refused_at([CLOSE, opening("a"), CLOSE], 0)
        self.refused_at([text("x"), opening("a"), CLOSE], 0)

    def test_anything_behind_the_close_of_the_first_part(self):
        whole = [opening("a"), text("x"), opening("b"), CLOSE, CLOSE]
        for sign in [opening("a"), opening("c"), text("x"), text(""), CLOSE]:
            self.refused_at(whole + [sign], 5)
            self.refused_at([opening("a"), CLOSE, sign], 2)

    def test_the_first_of_several_is_told(self):
        self.refused_at([opening("a"), CLOSE, CLOSE, text("x"), CLOSE], 2)
        self.refused_at([opening("a"), CLOSE, opening("b"), CLOSE, CLOSE], 2)
        self.refused_at([opening("a"), CLOSE, text("x"), CLOSE], 2)
        self.refused_at([text("x"), CLOSE], 0)
        self.refused_at([opening("a"), opening("b"), CLOSE, CLOSE, CLOSE], 4)

    def test_a_refusal_leaves_nothing_behind(self):
        self.refused_at([opening("a"), CLOSE, CLOSE], 2)
        self.assertEqual(stump([opening("b"), text("x")]), ("b", ["x"]))

    def test_each_row_of_five_signs(self):
        rows = [[]]
        for _ in range(5):
            rows = [row + [sign] for row in rows for sign in [opening("a"), text("x"), CLOSE]]
        for row in rows:
            at = first_that_cannot_come(row)
            if at is None:
                self.assertEqual(signs_of(stump(row)), row + [CLOSE] * open_at_end(row))
            else:
                self.refused_at(row, at)


def first_that_cannot_come(signs):
    for at, sign in enumerate(signs):
        if at == 0 and sign[0] == "open":
            continue
        if at == 0 or open_at_end(signs[:at]) == 0:
            return at
    return None


class ManyParts(unittest.TestCase):
    def test_tuples_are_counted_and_texts_are_not(self):
        self.assertEqual(many_parts(("a", [])), 1)
        self.assertEqual(many_parts(("a", ["x", "", "y"])), 1)
        self.assertEqual(many_parts(("a", ["x", ("b", ["y", ("c", [])]), ("b", [])])), 4)

    def test_equal_parts_are_counted_each(self):
        leaf = ("b", ["x"])
        self.assertEqual(many_parts(("a", [leaf, leaf, ("b", ["x"])])), 4)

    def test_as_many_as_open(self):
        for seed in range(60):
            signs = Maker(seed).signs(40)
            self.assertEqual(many_parts(stump(signs)), len([sign for sign in signs if sign[0] == "open"]))

    def test_nothing_handed_in_is_changed(self):
        paper = ("a", ["x", ("b", [])])
        self.assertEqual(keeps_apart(self, many_parts, paper), 2)
        paper[1].append(("b", []))
        self.assertEqual(many_parts(paper), 3)


if __name__ == "__main__":
    unittest.main()
