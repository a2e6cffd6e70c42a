import copy
import unittest

from earlysift.cutters import Cutter
from earlysift.errors import NoSign
from earlysift.papers import signs_of, stump
from earlysift.plain import answers
from helper import (
    ALL, CLOSE, Maker, beginnings, deep_paper, has, in_good_time, inner, lists_in, opening, own, spoil, text, words,
)


def parts_by_number(paper):
    found = [paper]
    for piece in paper[1]:
        if not isinstance(piece, str):
            found.extend(parts_by_number(piece))
    return found


def closed_by_now(signs):
    row, count, closed = [], 0, []
    for sign in signs:
        if sign[0] == "open":
            row.append(count)
            count += 1
        elif sign[0] == "close":
            closed.append(row.pop())
    return closed


class Take(unittest.TestCase):
    """[25]"""

    def check(self, question, signs):
        cutter, handed = Cutter(question), []
        for begun in beginnings(signs):
            told = cutter.take(begun[-1])
            paper, closed = stump(begun), closed_by_now(begun)
            ready = [number for number in answers(paper, question) if number in closed]
            parts = parts_by_number(paper)
            self.assertEqual(told, [(number, parts[number]) for number in ready if number not in handed])
            self.check_kinds(told)
            handed = ready
        self.assertEqual(handed, answers(stump(signs), question))
        return handed

    def check_kinds(self, told):
        self.assertIsInstance(told, list)
        for pair in told:
            self.assertIs(type(pair), tuple)
            self.assertEqual((type(pair[0]), type(pair[1])), (int, tuple))
        lists = [id(one) for one in lists_in(told)]
        self.assertEqual(len(lists), len(set(lists)))

    def test_with_each_sign(self):
        handed = 0
        for seed in range(500):
            maker = Maker(seed)
            handed += len(self.check(maker.steps(3), maker.signs(25)))
        self.assertGreater(handed, 200)

    def test_at_its_close_where_it_answers_before(self):
        cutter = Cutter([own("a"), own("b")])
        signs = signs_of(("a", [("b", ["x", ("c", [])]), "y", ("b", [])]))
        told = [cutter.take(sign) for sign in signs]
        self.assertEqual([numbers for numbers in told if numbers], [[(1, ("b", ["x", ("c", [])]))], [(3, ("b", []))]])
        self.assertEqual(told[5], [(1, ("b", ["x", ("c", [])]))])

    def test_as_soon_as_it_answers_where_it_closes_before(self):
        cutter = Cutter([own("a", words("x")), own("b")])
        signs = signs_of(("a", [("b", ["y"]), ("b", []), "x", ("b", ["z"])]))
        told = [cutter.take(sign) for sign in signs]
        self.assertEqual(told[6], [(1, ("b", ["y"])), (2, ("b", []))])
        self.assertEqual(told[9], [(3, ("b", ["z"]))])
        self.assertEqual(sum(len(numbers) for numbers in told), 3)

    def test_the_whole_paper(self):
        paper = ("a", [("b", ["x"]), "y"])
        cutter = Cutter([own("a")])
        told = [cutter.take(sign) for sign in signs_of(paper)]
        self.assertEqual(told[-1], [(0, paper)])
        self.assertEqual(told[:-1], [[] for sign in told[:-1]])

    def test_parts_within_parts_share_no_list(self):
        question = [own("a", words("x")), inner("*")]
        cutter = Cutter(question)
        signs = signs_of(("a", [("b", [("c", [("d", ["y"])]), ("d", [])]), "x"]))
        told = [cutter.take(sign) for sign in signs]
        self.assertEqual([pair[0] for pair in told[-2]], [1, 2, 3, 4])
        self.check_kinds(told[-2])
        self.check(question, signs)
        everything = Cutter(ALL)
        told = [everything.take(sign) for sign in signs]
        lists = [id(one) for one in lists_in(told)]
        self.assertEqual(len(lists), len(set(lists)))

    def test_what_is_told_may_be_changed(self):
        for seed in range(100):
            maker = Maker(seed)
            question, signs = maker.steps(2), maker.signs(20)
            cutter, plain, held = Cutter(question), Cutter(copy.deepcopy(question)), copy.deepcopy(question)
            spoil(question)
            for sign in signs:
                told = cutter.take(sign)
                self.assertEqual(told, plain.take(sign))
                spoil(told)
            self.check(held, signs)


class Refused(unittest.TestCase):
    def refused(self, cutter, signs, at):
        for sign in signs:
            with self.assertRaises(NoSign) as caught:
                cutter.take(sign)
            self.assertEqual(caught.exception.at, at)

    def test_as_a_sift_refuses(self):
        paper = ("a", [("b", ["x"])])
        cutter = Cutter(ALL)
        self.refused(cutter, [CLOSE, text("x")], 0)
        told = [cutter.take(sign) for sign in signs_of(paper)]
        self.assertEqual(told, [[], [], [], [(1, ("b", ["x"]))], [(0, paper)]])
        self.refused(cutter, [CLOSE, text("x"), opening("a")], 5)


class Large(unittest.TestCase):
    """[4], [11]"""

    def test_in_good_time(self):
        paper = deep_paper(60, 400)
        for question in [ALL, [inner("a", has(inner("z"))), inner("*")], [inner("*") for _ in range(20)]]:
            with in_good_time():
                cutter, handed = Cutter(question), {}
                for sign in signs_of(paper):
                    handed.update(cutter.take(sign))
            parts = parts_by_number(paper)
            self.assertEqual(handed, {number: parts[number] for number in answers(paper, question)})


if __name__ == "__main__":
    unittest.main()
