"""What DOC.md promises over the whole program: points [1], [2], [3] and the interface's first paragraph."""

import copy
import importlib
import inspect
import unittest

from earlysift.cutters import Cutter
from earlysift.leans import Lean, woken
from earlysift.papers import signs_of, stump
from earlysift.parting import parting
from earlysift.plain import answers
from earlysift.plainer import alike, plainer
from earlysift.sifts import Sift
from earlysift.texts import read, shown
from earlysift.trays import Tray
from helper import ANY, Maker, beginnings, has, inner, keeps_apart, lists_in, one, own, spoil, within_bounds, words

FUNCTIONS = {
    "papers": {"signs_of": ["part"], "stump": ["signs"], "many_parts": ["paper"]},
    "plain": {"holds": ["part", "wish"], "answers": ["paper", "question"]},
    "leans": {"woken": ["question", "value"]},
    "plainer": {"alike": ["one", "other"], "plainer": ["question"]},
    "parting": {"parting": ["one", "other"]},
    "texts": {"shown": ["question"], "read": ["line"]},
}
CLASSES = {
    "sifts": ("Sift", ["question"], {
        "take": ["sign"], "told": [], "waiting": [], "is_over": [], "shortest": [], "ending": ["number"],
        "outlook": [], "hope": [],
    }),
    "leans": ("Lean", ["question"], {"take": ["sign"], "waiting": [], "is_over": [], "asleep": []}),
    "cutters": ("Cutter", ["question"], {"take": ["sign"]}),
    "trays": ("Tray", [], {"put": ["name", "question"], "take": ["sign"], "told": ["name"]}),
}


class Interface(unittest.TestCase):
    def names(self, call):
        return [name for name in inspect.signature(call).parameters if name != "self"]

    def test_functions(self):
        for stem, functions in FUNCTIONS.items():
            module = importlib.import_module("earlysift." + stem)
            for name, arguments in functions.items():
                self.assertEqual(self.names(getattr(module, name)), arguments)

    def test_classes(self):
        for stem, (name, arguments, methods) in CLASSES.items():
            made = getattr(importlib.import_module("earlysift." + stem), name)
            self.assertEqual(self.names(made), arguments)
            for method, handed in methods.items():
                self.assertEqual(self.names(getattr(made, method)), handed)


def cases(many, deep=2, length=20):
    for seed in range(many):
        maker = Maker(seed)
        yield maker.steps(deep), maker.signs(length)


class Together(unittest.TestCase):
    """[3]"""

    def test_all_tell_the_same_of_a_paper(self):
        for question, signs in cases(200):
            again = read(shown(question))
            self.assertEqual(again, question)
            tray, sift, lean, cutter = Tray(), Sift(again), Lean(question), Cutter(again)
            tray.put("a", question)
            tray.put("b", again)
            cut, leant = [], []
            for sign in signs:
                fresh = sift.take(sign)
                lean = woken(again, lean.asleep())
                self.assertEqual(lean.take(sign), fresh)
                self.assertEqual(tray.take(sign), [("a", fresh), ("b", fresh)])
                leant.extend(fresh)
                cut.extend(pair[0] for pair in cutter.take(sign))
            numbers = answers(stump(signs), question)
            for told in [sift.told(), tray.told("a"), tray.told("b"), sorted(leant), sorted(cut)]:
                self.assertEqual(told, numbers)

    def test_a_part_is_told_just_where_it_answers_in_every_paper_that_begins_so(self):
        for question, signs in cases(60, 2, 12):
            sift = Sift(question)
            for begun in beginnings(signs):
                sift.take(begun[-1])
                shortest = answers(stump(begun + sift.shortest()), question)
                self.assertEqual(sift.told(), shortest)
                for other in range(3):
                    on = begun + [sign for sign in Maker(other).signs(8) if len(sift.shortest()) > 0]
                    whole = stump(on + sift.shortest())
                    self.assertLessEqual(set(sift.told()), set(answers(whole, question)))

    def test_a_question_and_its_plainer_one_tell_the_same_with_each_sign(self):
        for question, signs in cases(150, 2, 25):
            if within_bounds(question):
                plain = plainer(question)
                first, second = Sift(question), Sift(plain)
                for sign in signs:
                    self.assertEqual(first.take(sign), second.take(sign))
                    self.assertEqual(first.waiting(), second.waiting())
                    self.assertEqual(first.outlook(), second.outlook())

    def test_where_a_question_lies_within_another_it_is_told_no_sooner(self):
        for seed in range(150):
            maker = Maker(seed)
            first, second, signs = maker.steps(1), maker.steps(1), maker.signs(25)
            if within_bounds(first) and within_bounds(second) and parting(first, second) is None:
                one_sift, other_sift = Sift(first), Sift(second)
                for sign in signs:
                    one_sift.take(sign)
                    other_sift.take(sign)
                    self.assertLessEqual(set(one_sift.told()), set(other_sift.told()))

    def test_a_paper_that_parts_two_questions_parts_their_sifts(self):
        parted = 0
        for seed in range(150):
            maker = Maker(seed)
            first, second = maker.steps(2), maker.steps(2)
            if within_bounds(first) and within_bounds(second):
                told = parting(first, second)
                if told is not None:
                    parted += 1
                    one_sift, other_sift = Sift(first), Sift(second)
                    for sign in signs_of(told[0]):
                        one_sift.take(sign)
                        other_sift.take(sign)
                    self.assertIn(told[1], one_sift.told())
                    self.assertNotIn(told[1], other_sift.told())
        self.assertGreater(parted, 30)


class Apart(unittest.TestCase):
    """[2]"""

    def test_functions_change_and_share_nothing(self):
        for question, signs in cases(80):
            line = shown(question)
            keeps_apart(self, stump, signs)
            keeps_apart(self, answers, stump(signs), question)
            keeps_apart(self, shown, question)
            keeps_apart(self, read, line)
            if within_bounds(question):
                other = [inner("*", has(own("b", words("x"))))]
                keeps_apart(self, parting, question, other)
                keeps_apart(self, parting, other, question)
                keeps_apart(self, alike, question, other)
                keeps_apart(self, plainer, question)

    def test_no_list_is_told_at_two_places_or_to_two(self):
        question = [own("a", words("x")), inner("*", one(words("x"), ANY))]
        held = copy.deepcopy(question)
        told, makers = [question], [Sift(question), Sift(question), Lean(question), Cutter(question)]
        tray = Tray()
        tray.put("a", question)
        tray.put("b", question)
        for sign in signs_of(("a", [("b", [("c", ["x"])]), "x", ("b", ["x", ("d", [])])])):
            told.extend([one.take(sign) for one in makers])
            told.append(tray.take(sign))
            told.extend([makers[0].told(), makers[0].waiting(), makers[0].shortest(), makers[0].hope()])
            told.extend([makers[0].ending(number) for number in makers[0].waiting()])
            told.extend([makers[2].asleep(), tray.told("a"), tray.told("b"), parting(held, [own("b")])])
            told.extend([read(shown(held)), plainer(held), plainer(held)])
        lists = lists_in(told)
        self.assertEqual(len(lists), len({id(one) for one in lists}))
        self.assertEqual(question, held)

    def test_what_is_told_may_be_changed(self):
        question = [own("a", one(words("x"), has(own("b", words("y")))))]
        line = shown(question)
        for call in [lambda: read(line), lambda: plainer(question), lambda: parting(question, [own("a", words("x"))])]:
            first = call()
            held = copy.deepcopy(first)
            spoil(first)
            self.assertEqual(call(), held)
        self.assertEqual(shown(question), line)


if __name__ == "__main__":
    unittest.main()
