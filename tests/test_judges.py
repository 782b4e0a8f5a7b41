"""[904]: the judge of LOGS with their papers; the LOGS of our house."""

import random
import unittest

from tests.examples import (
    CLEAN_SAMPLE, DIRTY_SAMPLE, HOUSE_LAB, LONG_SAMPLE, MANY_STANDINGS, NO_TUPLES, SHORT_SAMPLE, STEP_LAB, changed,
    house_logs, house_runs, literal_replay, near_values, other_logs, refused)
from washedarms.duechecks import is_due_plan, is_due_table
from washedarms.duepapers import due_plan, due_table
from washedarms.errors import BadEntry, BadEvent, BadLab, BadLateness, BadNumber, TooGreat
from washedarms.judges import judged, log_of, papers_of
from washedarms.questions import log_questions
from washedarms.replays import house_after

PAPERS = [(lab, entries, papers_of(lab, entries)) for lab, entries, _ in house_logs()]
SHORT = [(lab, entries[:25], papers[:25]) for lab, entries, papers in PAPERS[:2] + PAPERS[8:]]


def literal_judged(lab, entries, papers):
    """What the judge tells, by [904]."""
    if type(papers) is not tuple or len(papers) != len(entries):
        return (None, "paper")
    _, fault = literal_replay(lab, entries)
    entries = entries if fault is None else entries[:fault[0]]
    for index, questions in enumerate(log_questions(lab, entries)):
        row = papers[index]
        if type(row) is not tuple or len(row) != len(questions):
            return (index, "paper")
        if not all((is_due_plan if word == "plan" else is_due_table)(*claim, paper)
                   for (word, *claim), paper in zip(questions, row)):
            return (index, "paper")
    return fault


class OwnTest(unittest.TestCase):
    def test_logs_of_our_house(self):
        for (lab, rows, _), (_, entries, houses) in zip(house_runs(), house_logs()):
            events = tuple(event for _, event, _ in rows)
            self.assertEqual(log_of(lab, events), entries)
            self.assertEqual(log_of(lab, ()), ())
            self.assertEqual(house_after(lab, log_of(lab, events[:30])), houses[30])

    def test_own_papers(self):
        many = 0
        for lab, entries, papers in PAPERS:
            for questions, row in zip(log_questions(lab, entries), papers):
                for (word, *claim), paper in zip(questions, row):
                    self.assertIsNotNone(paper)
                    self.assertEqual(paper, (due_plan if word == "plan" else due_table)(*claim))
                    many += 1
            self.assertIsNone(judged(lab, entries, papers))
        self.assertGreater(many, 300)

    def test_beginnings(self):
        for lab, entries, papers in PAPERS[::5]:
            for many in range(len(entries) + 1):
                self.assertIsNone(judged(lab, entries[:many], papers[:many]))
                if many:
                    self.assertEqual(judged(lab, entries[:many], papers[:many - 1]), (None, "paper"))


class JudgedTest(unittest.TestCase):
    def test_other_papers(self):
        rng = random.Random(920)
        found = set()
        for lab, entries, papers in SHORT:
            places = [index for index, row in enumerate(papers) if row]
            for _ in range(25):
                index = rng.choice(places)
                row = papers[index]
                values = [row[1:], row + ((),), row[::-1], (), list(row), None, row[:-1] + (None,), row[:-1] + ((),),
                          rng.choice(papers)]
                if any(row):
                    values += near_values(row, rng, 3)
                other = changed(papers, (index,), rng.choice(values))
                right = literal_judged(lab, entries, other)
                self.assertEqual(judged(lab, entries, other), right)
                found.add(right is None)
                # A wrong beginning is told, whatever stands behind it.
                if right is not None:
                    self.assertEqual(judged(lab, entries[:index + 1], other[:index + 1]), right)
                    self.assertIsNone(judged(lab, entries[:index], other[:index]))
            for wrong in NO_TUPLES + (papers[1:], papers + ((),), list(papers)):
                self.assertEqual(judged(lab, entries, wrong), (None, "paper"))
        self.assertEqual(found, {True, False})

    def test_other_logs(self):
        rng = random.Random(921)
        words = set()
        for lab, entries, papers in SHORT:
            for other in other_logs(rng, lab, entries, 12):
                told = judged(lab, other, papers[:len(other)])
                self.assertEqual(told, literal_judged(lab, other, papers[:len(other)]))
                fault = literal_replay(lab, other)[1]
                if fault is None:
                    own = papers_of(lab, other)
                    right = [index for index, row in enumerate(own) if None in row]
                    self.assertEqual(judged(lab, other, own), (right[0], "paper") if right else None)
                else:
                    refused(self, BadEntry, {"index": fault[0], "why": fault[1]}, papers_of, lab, other)
                    # Behind the ENTRY that cannot be the papers are not looked at.
                    own = papers_of(lab, other[:fault[0]]) + (0,) * (len(other) - fault[0])
                    if not any(None in row for row in own[:fault[0]]):
                        self.assertEqual(judged(lab, other, own), fault)
                words.add(told and told[1])
        self.assertLessEqual({"paper", "number", "move"}, words)

    def test_by_hand(self):
        ask = (("ask", DIRTY_SAMPLE), (("promised", 0, 1),))
        plan = due_plan(*log_questions(STEP_LAB, (ask,))[0][0][1:])
        self.assertIsNone(judged(STEP_LAB, (ask,), ((plan,),)))
        self.assertEqual(judged(STEP_LAB, (ask,), ((),)), (0, "paper"))
        self.assertEqual(judged(STEP_LAB, (ask,), (plan,)), (0, "paper"))
        self.assertEqual(judged(STEP_LAB, (ask,), (((),),)), (0, "paper"))
        # A promise that is greater than needed asks for a table that there is not.
        late = (("ask", DIRTY_SAMPLE), (("promised", 0, 2),))
        self.assertEqual(papers_of(STEP_LAB, (late,))[0][1], None)
        self.assertEqual(judged(STEP_LAB, (late,), papers_of(STEP_LAB, (late,))), (0, "paper"))
        # A promise that can't be kept asks for a plan that there is not; so does a wrong refusal for a table.
        luck = (("ask", CLEAN_SAMPLE), (("promised", 0, 1),))
        self.assertEqual(papers_of(STEP_LAB, (luck,)), ((None,),))
        no = (("ask", CLEAN_SAMPLE), (("refused",),))
        self.assertEqual(papers_of(STEP_LAB, (no,)), ((None,),))
        self.assertEqual(judged(STEP_LAB, (no,), ((None,),)), (0, "paper"))
        self.assertEqual(judged(STEP_LAB, (luck,), ((plan,),)), (0, "paper"))
        self.assertEqual(judged(STEP_LAB, (), ()), None)
        wrong = (ask, (("waive", 4), (("free", 4),)))
        self.assertEqual(judged(STEP_LAB, wrong, ((plan,), ())), (1, "number"))
        self.assertEqual(judged(STEP_LAB, wrong, ((plan,), "x")), (1, "number"))
        self.assertEqual(judged(STEP_LAB, wrong, ((), ())), (0, "paper"))

    def test_any_house_may_have_made_it(self):
        # Another MOVE than that of our house, a taken sample that could have stayed: no rule is broken.
        ask = (("ask", SHORT_SAMPLE), (("promised", 0, 1),))
        washes = (("tick", ((0, "wash", 0), (1, "step", 0)), ((0, 0), (1, 0))), (("done", 0),))
        entries = (ask, washes, (("break", 0), ()), (("break", 1), ()), (("mend", 1, 1), (("mended", 1),)))
        self.assertNotEqual(entries[:2], log_of(HOUSE_LAB, (("ask", SHORT_SAMPLE), ("tick", ((1, 0),)))))
        self.assertIsNone(judged(HOUSE_LAB, entries, papers_of(HOUSE_LAB, entries)))


class ErrorsTest(unittest.TestCase):
    def test_errors_in_their_order(self):
        tick = (("tick", (), ()), ())
        for call, more in ((judged, ("x",)), (papers_of, ())):
            for wrong in NO_TUPLES:
                refused(self, BadLab, {"word": "lab", "place": ()}, call, wrong, "y", *more)
                refused(self, BadEntry, {"index": None, "why": "form"}, call, HOUSE_LAB, wrong, *more)
                refused(self, BadEntry, {"index": 1, "why": "form"}, call, HOUSE_LAB, (tick, wrong), *more)
            refused(self, TooGreat, {"most": 400}, call, HOUSE_LAB, (tick,) * 401, *more)
        self.assertIsNone(judged(HOUSE_LAB, (tick,) * 400, ((),) * 400))
        self.assertEqual(papers_of(HOUSE_LAB, (tick,) * 400), ((),) * 400)
        refused(self, BadEntry, {"index": 0, "why": "slots"}, papers_of, HOUSE_LAB,
                ((("ask", LONG_SAMPLE), (("full",),)),))

    def test_great_papers(self):
        ask = (("ask", DIRTY_SAMPLE), (("promised", 0, 1),))
        refused(self, TooGreat, {"most": 20000}, judged, STEP_LAB, (ask,), (((0,) * 20001,),))
        self.assertEqual(judged(STEP_LAB, (ask,), (((0,) * 20000,),)), (0, "paper"))
        # An ENTRY that cannot be is told first, and a wrong row of papers has no paper that is looked at.
        wrong = (("ask", DIRTY_SAMPLE), (("promised", 1, 1),))
        self.assertEqual(judged(STEP_LAB, (wrong,), (((0,) * 20001,),)), (0, "number"))
        self.assertEqual(judged(STEP_LAB, (ask,), (((0,) * 20001, ()),)), (0, "paper"))
        plan = papers_of(STEP_LAB, (ask,))[0][0]
        refused(self, TooGreat, {"most": 20000}, judged, STEP_LAB, (ask, ask[:1] + ((("promised", 1, 3),),)),
                ((plan,), ((0,) * 20001, ())))

    def test_log_of(self):
        for wrong in NO_TUPLES:
            refused(self, BadLab, {"word": "lab", "place": ()}, log_of, wrong, ())
            refused(self, BadEvent, {"word": None}, log_of, HOUSE_LAB, (("tick", ()), wrong))
            refused(self, BadEvent, {"word": None}, log_of, HOUSE_LAB, wrong)
        refused(self, BadLateness, {"value": 3}, log_of, HOUSE_LAB, (("tick", 3),))
        refused(self, BadNumber, {"value": 1}, log_of, HOUSE_LAB, (("ask", SHORT_SAMPLE), ("waive", 1)))
        task = MANY_STANDINGS[1]
        refused(self, TooGreat, {"most": 20000}, log_of, task[0], (("ask", task[1][0]),))
        refused(self, TooGreat, {"most": 20000}, papers_of, task[0], ((("ask", task[1][0]), (("refused",),)),))


if __name__ == "__main__":
    unittest.main()
