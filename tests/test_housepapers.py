"""[806]: papers for what a HOUSE refuses, and for promises that it takes back."""

import unittest

from tests.examples import (
    CLEAN_SAMPLE, DIRTY_SAMPLE, EMPTY_SLOT, HOUSE_LAB, LONG_SAMPLE, LUCK_LAB, MANY_STANDINGS, NEVER_RIGHT, NO_TUPLES,
    SHORT_SAMPLE, STEP_LAB, LiteralHouse, changed, house_runs, refused)
from washedarms.duechecks import is_due_table
from washedarms.duepapers import due_table
from washedarms.errors import BadHouse, BadNumber, BadSample, BadTool, TooGreat
from washedarms.houses import house_new
from washedarms.housepapers import asked_due, asked_paper, back_paper
from washedarms.housing import house_step

STEPS = [(house, event, words) for _, rows, _ in house_runs() for house, event, words in rows]


def asked_claim(house, sample):
    """The claim of a refusal."""
    model = LiteralHouse(house)
    model.put(sample, 60)
    return model.claim()


class AskedTest(unittest.TestCase):
    def test_by_the_words(self):
        found = set()
        for house, event, words in STEPS:
            if event[0] != "ask":
                continue
            word = words[0][0]
            self.assertEqual(asked_due(house, event[1]), words[0][2] if word == "promised" else None)
            paper = asked_paper(house, event[1])
            self.assertEqual(paper is not None, word == "refused")
            if paper is not None:
                task, standing, dues = asked_claim(house, event[1])
                self.assertTrue(is_due_table(task, standing, dues, paper))
                self.assertEqual(paper, due_table(task, standing, dues))
            found.add(word)
        self.assertEqual(found, {"promised", "refused", "full"})

    def test_by_hand(self):
        house = house_new(STEP_LAB)
        self.assertEqual(asked_due(house, CLEAN_SAMPLE), 2)
        self.assertIsNone(asked_paper(house, CLEAN_SAMPLE))
        dirty = house_step(house, ("ask", DIRTY_SAMPLE))[0]
        self.assertIsNone(asked_due(dirty, DIRTY_SAMPLE))
        paper = asked_paper(dirty, DIRTY_SAMPLE)
        self.assertTrue(is_due_table((STEP_LAB, (DIRTY_SAMPLE,) * 2 + (EMPTY_SLOT,) * 2), (((0, 0),) * 4, ((0, ()),)),
                                     (1, 60, -1, -1), paper))
        full = house
        for _ in range(4):
            full = house_step(full, ("ask", CLEAN_SAMPLE))[0]
        self.assertIsNone(asked_due(full, DIRTY_SAMPLE))
        self.assertIsNone(asked_paper(full, DIRTY_SAMPLE))
        luck = changed(house_new(LUCK_LAB), (2, 1, 0, 0), 1)
        self.assertIsNone(asked_due(luck, DIRTY_SAMPLE))
        self.assertIsNotNone(asked_paper(luck, DIRTY_SAMPLE))

    def test_errors_in_their_order(self):
        right = house_new(HOUSE_LAB)
        for call in (asked_due, asked_paper):
            for wrong in NO_TUPLES:
                refused(self, BadHouse, {"number": 1}, call, wrong, "x")
                refused(self, BadSample, {"value": wrong}, call, right, wrong)
            refused(self, BadHouse, {"number": 2}, call, changed(right, (1, 0), LONG_SAMPLE), "x")
            refused(self, BadSample, {"value": EMPTY_SLOT}, call, right, EMPTY_SLOT)
            task = MANY_STANDINGS[1]
            refused(self, TooGreat, {"most": 20000}, call, house_new(task[0]), task[1][0])


class BackTest(unittest.TestCase):
    def test_by_the_words(self):
        papers = 0
        for house, _, _ in STEPS[::2]:
            for tool in range(house[0][2]):
                model = LiteralHouse(house)
                if model.tools[tool][1] == ("out",):
                    continue
                spoilt = model.smash(tool)
                task, standing, dues = model.claim()
                back = {number for _, number in model.sort_out()}
                stay = [-1] * 4
                for number, slot in house[4]:
                    paper = back_paper(house, tool, number)
                    self.assertEqual(paper is not None, number in back)
                    if number not in back:
                        stay[slot] = dues[slot]
                        self.assertTrue(("spoilt", number) not in spoilt or paper is None)
                        continue
                    own = changed(tuple(stay), (slot,), dues[slot])
                    self.assertTrue(is_due_table(task, standing, own, paper))
                    self.assertEqual(paper, due_table(task, standing, own))
                    papers += 1
        self.assertGreater(papers, 60)

    def test_by_hand(self):
        house = house_step(house_new(HOUSE_LAB), ("ask", LONG_SAMPLE))[0]
        house = house_step(house, ("ask", SHORT_SAMPLE))[0]
        self.assertIsNotNone(back_paper(house, 1, 0))
        self.assertIsNotNone(back_paper(house, 1, 1))
        self.assertIsNotNone(back_paper(house, 0, 0))
        self.assertIsNone(back_paper(house, 0, 1))
        # Free samples have no promise; the sample of a step on the tool is spoilt.
        self.assertIsNone(back_paper(house_step(house, ("waive", 0))[0], 1, 0))
        runs = house_step(house, ("tick", ()))[0]
        self.assertIsNone(back_paper(runs, 1, 0))
        self.assertIsNotNone(back_paper(runs, 1, 1))

    def test_errors_in_their_order(self):
        house = house_step(house_new(HOUSE_LAB), ("ask", LONG_SAMPLE))[0]
        out = house_step(house, ("break", 0))[0]
        for wrong in NO_TUPLES:
            refused(self, BadHouse, {"number": 1}, back_paper, wrong, "x", "y")
        refused(self, BadHouse, {"number": 2}, back_paper, changed(house, (4,), ()), "x", "y")
        for wrong in NEVER_RIGHT + NO_TUPLES + (2, -1, None):
            if type(wrong) is not int or wrong not in (0, 1):
                refused(self, BadTool, {"value": wrong}, back_paper, house, wrong, "y")
            if type(wrong) is not int or wrong != 0:
                refused(self, BadNumber, {"value": wrong}, back_paper, house, 0, wrong)
        refused(self, BadTool, {"value": 0}, back_paper, out, 0, "y")
        refused(self, BadNumber, {"value": 1}, back_paper, out, 1, 1)


if __name__ == "__main__":
    unittest.main()
