"""[903]: the questions of ENTRIES."""

import random
import unittest

from tests.examples import (
    CLEAN_SAMPLE, DIRTY_SAMPLE, EMPTY_SLOT, HOUSE_LAB, LONG_SAMPLE, NO_TUPLES, SHORT_SAMPLE, STEP_LAB, LiteralHouse,
    changed, house_logs, literal_replay, other_logs, refused)
from washedarms.errors import BadEntry, BadLab, TooGreat
from washedarms.questions import log_questions


def literal_questions(house, event, words, behind):
    """The questions of an ENTRY, by [903]."""
    model = LiteralHouse(house)
    told = dict((word[0], word) for word in words)
    if "promised" in told:
        _, number, due = told["promised"]
        task, standing, dues = LiteralHouse(behind).claim()
        slot = LiteralHouse(behind).slot_of(number)
        rows = [("plan", task, standing, dues)]
        return tuple(rows + [("table", task, standing, changed(dues, (slot,), due - 1))] * (due > 1))
    if "refused" in told:
        model.put(event[1], 60)
        return (("table",) + model.claim(),)
    if "taken" in told:
        return (("plan",) + LiteralHouse(behind).claim(),)
    if "needed" in told:
        del model.slots[model.slot_of(event[1])]
        return (("table",) + model.claim(),)
    if event[0] == "break":
        model.smash(event[1])
        task, standing, dues = model.claim()
        back = [word[1] for word in words if word[0] == "back"]
        slots = {number: model.slot_of(number) for number in [one["number"] for one in model.slots.values()]}
        stay = [number for number in slots if dues[slots[number]] > -1 and number not in back]
        rows = []
        for number in back + [None]:
            asked = [slots[one] for one in stay if number is None or one < number]
            asked += [] if number is None else [slots[number]]
            rows.append(("plan" if number is None else "table", task, standing, tuple(
                due if slot in asked else -1 for slot, due in enumerate(dues))))
        return tuple(rows)
    return ()


class QuestionsTest(unittest.TestCase):
    def test_logs_of_our_house(self):
        counts = {}
        for lab, entries, houses in house_logs():
            told = log_questions(lab, entries)
            self.assertEqual(len(told), len(entries))
            for index, (event, words) in enumerate(entries):
                self.assertEqual(told[index], literal_questions(houses[index], event, words, houses[index + 1]))
                key = (event[0], words[0][0] if words else "", tuple(row[0] for row in told[index]))
                counts[key] = counts.get(key, 0) + 1
        self.assertLessEqual({
            ("ask", "promised", ("plan",)), ("ask", "promised", ("plan", "table")), ("ask", "refused", ("table",)),
            ("ask", "full", ()), ("tick", "", ()), ("tick", "done", ()), ("waive", "free", ()),
            ("take", "taken", ("plan",)), ("take", "needed", ("table",)), ("take", "running", ()),
            ("break", "", ("plan",)), ("break", "back", ("table", "plan")),
            ("break", "back", ("table", "table", "plan")), ("break", "spoilt", ("plan",)),
            ("mend", "mended", ())}, set(counts))

    def test_other_logs(self):
        rng = random.Random(910)
        found = {True: 0, False: 0}
        for lab, entries, _ in house_logs():
            for other in other_logs(rng, lab, entries, 25):
                houses, fault = literal_replay(lab, other)
                found[fault is None] += 1
                if fault is not None:
                    refused(self, BadEntry, {"index": fault[0], "why": fault[1]}, log_questions, lab, other)
                    other = other[:fault[0]]
                self.assertEqual(log_questions(lab, other), tuple(
                    literal_questions(houses[index], event, words, houses[index + 1])
                    for index, (event, words) in enumerate(other)))
        self.assertGreater(min(found.values()), 30)

    def test_by_hand(self):
        start = ((0, 0),) * 4, ((0, ()),)
        slots = (DIRTY_SAMPLE,) + (EMPTY_SLOT,) * 3
        first = (("ask", DIRTY_SAMPLE), (("promised", 0, 1),))
        self.assertEqual(log_questions(STEP_LAB, (first,)), (
            (("plan", (STEP_LAB, slots), start, (1, -1, -1, -1)),),))
        second = (("ask", CLEAN_SAMPLE), (("promised", 1, 9),))
        slots = (DIRTY_SAMPLE, CLEAN_SAMPLE) + (EMPTY_SLOT,) * 2
        task = (STEP_LAB, slots)
        self.assertEqual(log_questions(STEP_LAB, (first, second))[1], (
            ("plan", task, start, (1, 9, -1, -1)), ("table", task, start, (1, 8, -1, -1))))
        self.assertEqual(log_questions(STEP_LAB, (first, (("ask", CLEAN_SAMPLE), (("refused",),))))[1], (
            ("table", task, start, (1, 60, -1, -1)),))
        self.assertEqual(log_questions(STEP_LAB, (first, second, (("take", 0), (("needed", 0),))))[2], (
            ("table", (STEP_LAB, (EMPTY_SLOT,) + slots[1:]), start, (-1, 9, -1, -1)),))
        self.assertEqual(log_questions(STEP_LAB, (first, second, (("take", 1), (("taken", 1),))))[2], (
            ("plan", (STEP_LAB, slots[:1] + (EMPTY_SLOT,) * 3), start, (1, -1, -1, -1)),))
        third = (("ask", DIRTY_SAMPLE), (("promised", 2, 30),))
        task, broken = (STEP_LAB, slots[:2] + (DIRTY_SAMPLE, EMPTY_SLOT)), (start[0], ((0, ("out",)),))
        rows = first, second, third, (("break", 0), (("back", 0), ("back", 2)))
        self.assertEqual(log_questions(STEP_LAB, rows)[3], (
            ("table", task, broken, (1, -1, -1, -1)), ("table", task, broken, (-1, 9, 30, -1)),
            ("plan", task, broken, (-1, 9, -1, -1))))
        # Promises are asked for with the windows that they had: none is taken back yet.
        long = (("ask", LONG_SAMPLE), (("promised", 0, 9),))
        told = log_questions(HOUSE_LAB, (long, (("break", 0), (("back", 0),))))[1]
        self.assertEqual([row[1][1][0] for row in told], [LONG_SAMPLE, LONG_SAMPLE])
        free = (("waive", 0), (("free", 0),))
        told = log_questions(HOUSE_LAB, (long, free, (("break", 0), ())))[2]
        self.assertEqual(told, (("plan", (HOUSE_LAB, ((LONG_SAMPLE[0], (None, None)),) + (EMPTY_SLOT,) * 3),
                                 (((0, 0),) * 4, ((0, ("out",)), (0, ()))), (-1,) * 4),))

    def test_errors_in_their_order(self):
        for wrong in NO_TUPLES:
            refused(self, BadLab, {"word": "lab", "place": ()}, log_questions, wrong, "x")
            refused(self, BadEntry, {"index": None, "why": "form"}, log_questions, HOUSE_LAB, wrong)
        free = (("waive", 5), (("free", 5),))
        refused(self, TooGreat, {"most": 400}, log_questions, HOUSE_LAB, (free,) * 401)
        refused(self, BadEntry, {"index": 1, "why": "form"}, log_questions, HOUSE_LAB, (free, 0))
        refused(self, BadEntry, {"index": 0, "why": "number"}, log_questions, HOUSE_LAB, (free, free))
        self.assertEqual(log_questions(HOUSE_LAB, ()), ())
        short = (("ask", SHORT_SAMPLE), (("promised", 0, 1),))
        self.assertEqual(len(log_questions(HOUSE_LAB, (short,))[0]), 1)


if __name__ == "__main__":
    unittest.main()
