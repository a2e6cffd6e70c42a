import copy
import unittest

from earlysift.facts import Facts, can_hold, copied, meets
from earlysift.papers import laid_out, stump
from earlysift.plain import answers, holds
from helper import (
    ALL, ANY, Maker, beginnings, both, count_and_depth, deep_paper, has, in_good_time, inner, keeps_apart, lists_in,
    one, own, steps_within_steps, words,
)

NEVER = [
    one(),
    one(one()),
    one(one(), one()),
    both(one()),
    both(ANY, one()),
    both(one(), words("x")),
    has(own("a", one())),
    has(inner("*", one())),
    has(own("a"), own("b", one())),
    has(own("a", one()), own("b")),
    has(own("a", has(own("b", both(words("x"), one()))))),
    one(both(one()), has(own("a", one()))),
]
ALWAYS = [
    ANY, both(), both(both()), both(ANY, both()), one(ANY), one(both()), one(one(), ANY), both(one(one(), both())),
]
SOMETIMES = [
    words("x"), words(""), has(own("a")), has(inner("*")), both(words("x"), words("y")), one(one(), words("x")),
    both(both(), has(own("b", one(one(), ANY)))), has(own("a"), inner("b", words("x")), own("*")),
]


def parts_facts(facts, part):
    """The facts of each part by its number, from the last one back: what stands within a part has higher numbers."""
    layout = laid_out(part)
    atoms = [0 for name in layout.names]
    for number in range(len(atoms) - 1, -1, -1):
        for text in layout.texts[number]:
            atoms[number] |= facts.text_fact(text)
        if number > 0:
            up = facts.lifted(facts.steps_for(layout.names[number]), atoms[number])
            atoms[layout.parents[number]] |= up
    return atoms


def parts_within(part):
    """The tuples of a part by their numbers."""
    found = [part]
    for piece in part[1]:
        if not isinstance(piece, str):
            found.extend(parts_within(piece))
    return found


class Held(unittest.TestCase):
    """Facts tell of each part what earlysift.plain tells."""

    def check(self, part, wish):
        facts = Facts([own("*", wish)])
        atoms = parts_facts(facts, part)
        for number, inside in enumerate(parts_within(part)):
            truth = holds(inside, wish)
            self.assertIs(meets(facts.asks[0], atoms[number]), truth, (inside, wish))
            self.assertEqual(facts.fitting(facts.steps_for(inside[0]), atoms[number]), 1 if truth else 0)

    def test_over_whole_papers(self):
        for seed in range(400):
            maker = Maker(seed)
            self.check(stump(maker.signs(20)), maker.wish(3))

    def test_over_stumps(self):
        for seed in range(60):
            maker = Maker(seed)
            wish, signs = maker.wish(3), maker.signs(15)
            for begun in beginnings(signs):
                self.check(stump(begun), wish)

    def test_the_edges(self):
        part = ("a", ["x", "", ("b", ["y", ("a", [("b", ["x"])])]), ("ab", [])])
        for wish in NEVER + ALWAYS + SOMETIMES:
            self.check(part, wish)

    def test_a_fact_of_the_one_part_is_none_of_the_other(self):
        part = ("a", [("b", ["x"]), ("b", ["y"])])
        self.check(part, has(own("b", both(words("x"), words("y")))))
        self.check(part, both(has(own("b", words("x"))), has(own("b", words("y")))))
        self.check(("a", [("b", [("c", [])]), ("b", [("d", [])])]), has(own("b", has(own("c"))), own("d")))

    def test_an_own_step_does_not_reach_further(self):
        self.check(("a", [("b", [("c", ["x"])])]), has(own("c", words("x"))))
        self.check(("a", [("b", [("c", ["x"])])]), has(inner("c", words("x"))))
        self.check(("a", [("b", [("b", [("c", [])])])]), has(own("b"), own("c")))
        self.check(("a", [("b", [("b", [("c", [])])])]), has(own("b"), inner("c")))

    def test_which_steps_a_part_fits(self):
        question = [own("a"), inner("*", words("x")), own("b", one()), inner("b", both())]
        facts = Facts(question)
        x = facts.text_fact("x")
        self.assertEqual(facts.fitting(facts.steps_for("a"), 0), 0b0001)
        self.assertEqual(facts.fitting(facts.steps_for("a"), x), 0b0011)
        self.assertEqual(facts.fitting(facts.steps_for("b"), x), 0b1010)
        self.assertEqual(facts.fitting(facts.steps_for("bb"), x), 0b0010)
        self.assertEqual(facts.text_fact("y"), 0)

    def test_facts_only_grow_as_signs_come(self):
        for seed in range(60):
            maker = Maker(seed)
            facts, signs = Facts(maker.steps(3)), maker.signs(20)
            ahead = []
            for begun in beginnings(signs):
                now = parts_facts(facts, stump(begun))
                self.assertEqual([one & two for one, two in zip(ahead, now)], ahead)
                ahead = now

    def test_large(self):
        paper = deep_paper(60, 400)
        for name in ["y", "z"]:
            wish = has(*[inner("*") for _ in range(8)], *steps_within_steps(5, name))
            self.assertEqual(count_and_depth(wish)[0], 39)
            facts = Facts([own("*", wish)])
            with in_good_time():
                self.assertIs(meets(facts.asks[0], parts_facts(facts, paper)[0]), holds(paper, wish))


class CanHold(unittest.TestCase):
    def papers(self):
        return [stump(Maker(seed).signs(25)) for seed in range(60)]

    def test_wishes_that_never_hold(self):
        for wish in NEVER:
            self.assertIs(can_hold(wish), False, wish)
            for paper in self.papers():
                self.assertEqual(answers(paper, [inner("*", wish)]), [])

    def test_wishes_that_hold_of_every_part(self):
        for wish in ALWAYS:
            self.assertIs(can_hold(wish), True, wish)
            for paper in self.papers():
                self.assertEqual(answers(paper, [inner("*", wish)]), answers(paper, ALL))

    def test_wishes_that_hold_of_some(self):
        for wish in SOMETIMES:
            self.assertIs(can_hold(wish), True, wish)

    def test_what_holds_of_some_part_can_hold(self):
        papers = self.papers()
        held = 0
        for seed in range(300):
            wish = Maker(seed).wish(3)
            if any(answers(paper, [inner("*", wish)]) for paper in papers):
                held += 1
                self.assertIs(can_hold(wish), True, wish)
        self.assertGreater(held, 50)


class Copied(unittest.TestCase):
    def test_equal_and_apart(self):
        for seed in range(100):
            question = Maker(seed).steps(3)
            self.assertEqual(keeps_apart(self, copied, question), question)

    def test_one_list_at_two_places_becomes_two(self):
        wish = has(own("a", both(words("x"))))
        question = [own("a", wish), own("b", both(wish, wish))]
        told = keeps_apart(self, copied, question)
        self.assertEqual(told, question)

    def test_facts_hold_nothing_that_was_handed_in(self):
        question = [own("a", both(words("x"), has(own("b"), inner("c", one(words("y"))))))]
        before = copy.deepcopy(question)
        facts = Facts(question)
        self.assertEqual(question, before)
        for inside in lists_in(question):
            inside.clear()
        self.assertEqual(facts.question, before)
        self.assertEqual((facts.asks, facts.leads), (Facts(before).asks, Facts(before).leads))


if __name__ == "__main__":
    unittest.main()
