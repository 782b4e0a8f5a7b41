"""[505]: a plan paper and a table paper that contradict each other."""

import random
import unittest

from tests.examples import (
    DOC_LAB, NO_TUPLES, PAPER_TASK, RUN_STANDINGS, RUN_TASK, SMALL_TASKS, WRONG_STANDINGS, changed, literal_broken,
    literal_done, literal_met, literal_rows, refused)
from tests.examples import RUN_PLAN as PLAN, RUN_TABLE as TABLE
from washedarms.clashes import clash
from washedarms.errors import BadPaper, BadStanding, BadTask, TooGreat
from washedarms.forms import start
from washedarms.lateness import lateness_table
from washedarms.planchecks import plan_fault
from washedarms.plans import live_plan
from washedarms.tablechecks import table_fault

FIRST, SECOND, THIRD, FOURTH, DONE = RUN_STANDINGS
STEP, WASH = ((0, "step", 0),), ((0, "wash", 0),)


def some_plan(rng, task, live):
    """A paper whose rows are right by themselves, by guessing."""
    return tuple((one, rng.choice(literal_rows(task, one))[0], rng.randint(1, 6)) for one in live
                 if rng.random() < 0.9)


def some_table(rng, task, live):
    """A paper whose rows are right by themselves, by guessing."""
    rows = []
    for one in live:
        left = rng.choice((None, 0, 1, 3, 7, 7, 7))
        answers = tuple(rng.choice(ends)[0] for _, ends in literal_rows(task, one))
        if rng.random() < 0.9:
            rows.append((one, left, () if left == 0 else answers))
    return tuple(rows)


def enough(left, least):
    """Whether LEFT is at least a number, None being for ever."""
    return left is None or (least is not None and left >= least)


def literal_clash(task, standing, plan, table):
    """What clash tells, by the words of [505]."""
    plans = {row[0]: (index, row) for index, row in enumerate(plan)}
    tables = {row[0]: (index, row) for index, row in enumerate(table)}
    if standing not in plans or standing not in tables:
        return None
    if not enough(tables[standing][1][1], plans[standing][1][2]):
        return None
    walk = ()
    while True:
        place, (_, move, rank) = plans[standing]
        other, (_, left, answers) = tables[standing]
        rows = literal_rows(task, standing)
        at = [told for told, _ in rows].index(move)
        behind = dict(rows[at][1])[answers[at]]
        walk += ((move, answers[at]),)
        if not literal_done(task, behind) and not (behind in plans and plans[behind][1][2] < rank):
            return ("plan", place, walk)
        if not literal_broken(task, behind) and not (
                behind in tables and enough(tables[behind][1][1], None if left is None else left - 1)):
            return ("table", other, walk)
        standing = behind


class ClashTest(unittest.TestCase):
    def test_guessed_papers(self):
        rng = random.Random(370)
        found, lengths = set(), set()
        for task in SMALL_TASKS:
            web = literal_met(start(task), lambda one: literal_rows(task, one))[0]
            live = sorted(one for one in web if not literal_done(task, one) and not literal_broken(task, one))
            for _ in range(12):
                plan, table = some_plan(rng, task, live), some_table(rng, task, live)
                if rng.random() < 0.3:
                    plan = live_plan(task, start(task)) or plan
                elif rng.random() < 0.4:
                    table = lateness_table(task, start(task), 0) or table
                for standing in rng.sample(web, min(6, len(web))):
                    told = clash(task, standing, plan, table)
                    self.assertEqual(told, literal_clash(task, standing, plan, table))
                    found.add(told and told[0])
                    if told is not None:
                        self.check_fault(task, plan, table, told)
                        self.assertLessEqual(len(told[2]), dict((row[0], row[2]) for row in plan)[standing])
                        lengths.add(len(told[2]))
        self.assertEqual(found, {None, "plan", "table"})
        self.assertGreaterEqual(max(lengths), 3)

    def check_fault(self, task, plan, table, told):
        """The row at which the walk ends has the fault "answer"."""
        name, index, _ = told
        if name == "plan":
            one, move, rank = plan[index]
            ranks = {row[0]: row[2] for row in plan}
            self.assertTrue(any(not literal_done(task, behind) and ranks.get(behind, rank) >= rank
                                for _, behind in dict(literal_rows(task, one))[move]))
        else:
            one, left, answers = table[index]
            lefts = {row[0]: row[1] for row in table}
            ends = [dict(ends)[answer] for (_, ends), answer in zip(literal_rows(task, one), answers)]
            self.assertTrue(any(not literal_broken(task, behind) and not (
                behind in lefts and enough(lefts[behind], None if left is None else left - 1)) for behind in ends))
        fault = plan_fault(task, plan) if name == "plan" else table_fault(task, table)
        self.assertEqual(fault[1], "answer")
        self.assertLessEqual(fault[0], index)

    def test_by_hand(self):
        self.assertIsNone(clash(RUN_TASK, FIRST, PLAN, TABLE))
        quick = tuple((one, move, rank - 1) for one, move, rank in PLAN[:3]) + PLAN[3:]
        # A quicker plan is wrong where its RANKS don't fall.
        self.assertEqual(clash(RUN_TASK, FIRST, quick, TABLE), (
            "plan", 2, ((STEP, ()), ((), ((0, 1),)), (WASH, ((0, 0),)))))
        self.assertEqual(clash(RUN_TASK, THIRD, quick, TABLE), ("plan", 2, ((WASH, ((0, 0),)),)))
        slow = tuple((one, left if left is None else left + 1, answers) for one, left, answers in TABLE[:3]) + TABLE[3:]
        self.assertEqual(clash(RUN_TASK, FIRST, PLAN, slow), (
            "table", 2, ((STEP, ()), ((), ((0, 1),)), (WASH, ((0, 0),)))))
        ever = (changed(TABLE[0], (1,), None),) + TABLE[1:]
        self.assertEqual(clash(RUN_TASK, FIRST, PLAN, ever), ("table", 0, ((STEP, ()),)))
        # What is done ends it with the table's row; what is broken with the plan's.
        late = ((FOURTH, 1, ((), ((0, 0),), ((0, 0),))),)
        self.assertEqual(clash(RUN_TASK, FOURTH, PLAN, late), ("table", 0, ((STEP, ((0, 0),)),)))
        lucky = ((FOURTH, (), 1),)
        self.assertEqual(clash(RUN_TASK, FOURTH, lucky, late), ("plan", 0, (((), ()),)))
        for standing in (DONE, (((1, 2),), ((0, ()),)), (((0, 0),), ((0, ("out",)),))):
            self.assertIsNone(clash(RUN_TASK, standing, quick, slow))
        self.assertIsNone(clash(RUN_TASK, FIRST, (), slow))
        self.assertIsNone(clash(RUN_TASK, FIRST, quick, ()))
        self.assertIsNone(clash(PAPER_TASK, start(PAPER_TASK), (), ()))

    def test_errors(self):
        refused(self, BadTask, {"word": "samples", "place": (1,)}, clash, (DOC_LAB, 0), "x", "y", "z")
        for wrong in WRONG_STANDINGS:
            with self.assertRaises(BadStanding):
                clash(RUN_TASK, wrong, "y", "z")
        for standing in (FIRST, DONE):
            for wrong in NO_TUPLES:
                refused(self, BadPaper, {"name": "plan", "index": None, "why": "form"}, clash, RUN_TASK, standing,
                        wrong, "z")
                refused(self, BadPaper, {"name": "table", "index": None, "why": "form"}, clash, RUN_TASK, standing,
                        PLAN, wrong)
            for index, why, paper in ((1, "form", PLAN[:1] + ((SECOND, (), 0),)), (1, "order", PLAN[:1] * 2),
                                      (4, "over", PLAN + ((DONE, (), 1),))):
                refused(self, BadPaper, {"name": "plan", "index": index, "why": why}, clash, RUN_TASK, standing, paper,
                        "z")
            for index, why, paper in ((0, "form", ((FIRST, 0, ((),)),)), (1, "order", TABLE[3:4] * 2),
                                      (5, "over", TABLE + ((DONE, 1, ()),))):
                refused(self, BadPaper, {"name": "table", "index": index, "why": why}, clash, RUN_TASK, standing, PLAN,
                        paper)
        great = (None,) * 20001
        refused(self, TooGreat, {"most": 20000}, clash, RUN_TASK, FIRST, great, "z")
        refused(self, TooGreat, {"most": 20000}, clash, RUN_TASK, FIRST, PLAN, great)
        refused(self, BadPaper, {"name": "plan", "index": 0, "why": "form"}, clash, RUN_TASK, FIRST, (0,), great)
        # Faults beside other rows are not refused.
        self.assertIsNone(clash(RUN_TASK, THIRD, PLAN[:1], TABLE[:1]))


if __name__ == "__main__":
    unittest.main()
