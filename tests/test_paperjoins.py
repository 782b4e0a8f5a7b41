"""[508]: two papers as one."""

import unittest

from tests.examples import (
    DOC_LAB, NO_TUPLES, RUN_STANDINGS, RUN_TASK, SMALL_TASKS, changed, refused, wide_plans, wide_tables)
from tests.examples import RUN_OUT as OUT, RUN_PLAN as PLAN, RUN_TABLE as TABLE
from washedarms.errors import BadPaper, BadTask, TooGreat
from washedarms.forms import start
from washedarms.lateness import lateness_table
from washedarms.paperjoins import joined_plans, joined_tables
from washedarms.planchecks import is_live_plan, plan_fault
from washedarms.plans import live_plan
from washedarms.tablechecks import is_lateness_table, table_fault

FIRST, _, THIRD, FOURTH, _ = RUN_STANDINGS
EVER = 10 ** 9


def literal_joined(paper, other, better):
    """For each STANDING its row, of two the other paper's only if it is better."""
    rows = {row[0]: row for row in paper}
    for row in other:
        if row[0] not in rows or better(row, rows[row[0]]):
            rows[row[0]] = row
    return tuple(rows[one] for one in sorted(rows))


def greater(row, told):
    """Whether LEFT of a row is greater than that of another one."""
    return (EVER if row[1] is None else row[1]) > (EVER if told[1] is None else told[1])


class JoinedTest(unittest.TestCase):
    def test_plans(self):
        mixed = 0
        for task in SMALL_TASKS[::2]:
            papers = wide_plans(task) + (live_plan(task, start(task)) or (), ())
            for paper in papers:
                for other in papers:
                    joined = joined_plans(task, paper, other)
                    self.assertEqual(joined, literal_joined(paper, other, lambda row, told: row[2] < told[2]))
                    self.assertIsNone(plan_fault(task, joined))
                    mixed += joined not in (paper, other)
                    for row in paper[:2] + other[:2]:
                        self.assertTrue(is_live_plan(task, row[0], row[2], joined))
        self.assertGreater(mixed, 5)

    def test_tables(self):
        mixed = 0
        for task in SMALL_TASKS[::2]:
            papers = wide_tables(task) + (lateness_table(task, start(task), 0) or (), ())
            for paper in papers:
                for other in papers:
                    joined = joined_tables(task, paper, other)
                    self.assertEqual(joined, literal_joined(paper, other, greater))
                    self.assertIsNone(table_fault(task, joined))
                    mixed += joined not in (paper, other)
                    for row in paper[:2] + other[:2]:
                        self.assertTrue(is_lateness_table(task, row[0], row[1], joined))
        self.assertGreater(mixed, 5)

    def test_by_hand(self):
        step, wash = ((0, "step", 0),), ((0, "wash", 0),)
        # Of equal RANKS the first paper's row.
        one = ((FIRST, step, 5),) + PLAN[1:]
        self.assertEqual(joined_plans(RUN_TASK, one, PLAN), PLAN)
        self.assertEqual(joined_plans(RUN_TASK, PLAN, one), PLAN)
        late, early = ((THIRD, wash, 3), (FOURTH, step, 2)), ((FOURTH, step, 1),)
        self.assertEqual(joined_plans(RUN_TASK, late, early), (late[0], early[0]))
        self.assertEqual(joined_plans(RUN_TASK, early, late), (late[0], early[0]))
        waits = (((1, 0),), ((0, ()),))
        first, other = ((waits, (), 2), (FOURTH, step, 1)), ((waits, step, 2),)
        self.assertEqual(joined_plans(RUN_TASK, first, other), first)
        self.assertEqual(joined_plans(RUN_TASK, other, first), other + first[1:])
        self.assertEqual(joined_plans(RUN_TASK, (), ()), ())
        self.assertEqual(joined_tables(RUN_TASK, ((OUT, 3, ((),)),), ((OUT, None, ((),)),)), ((OUT, None, ((),)),))
        self.assertEqual(joined_tables(RUN_TASK, ((OUT, None, ((),)),), ((OUT, 3, ((),)),)), ((OUT, None, ((),)),))
        self.assertEqual(joined_tables(RUN_TASK, ((OUT, 3, ((),)),), ((OUT, 4, ((),)),)), ((OUT, 4, ((),)),))
        self.assertEqual(joined_tables(RUN_TASK, TABLE[3:4], TABLE[4:]), TABLE[3:])
        self.assertEqual(joined_tables(RUN_TASK, (), ()), ())
        # Of equal LEFTS the first paper's row.
        one = changed(TABLE, (0, 1), 2)
        other = changed(one, (0, 2, 1), ((0, 1),))
        self.assertEqual(joined_tables(RUN_TASK, other, one), other)
        self.assertEqual(joined_tables(RUN_TASK, one, other), one)

    def test_errors(self):
        for call, name, paper in ((joined_plans, "plan", PLAN), (joined_tables, "table", TABLE)):
            refused(self, BadTask, {"word": "samples", "place": (1,)}, call, (DOC_LAB, 0), "x", "y")
            great = (None,) * 20001
            for wrong in NO_TUPLES:
                refused(self, BadPaper, {"name": name, "index": None, "why": "form"}, call, RUN_TASK, wrong, great)
                refused(self, BadPaper, {"name": name, "index": None, "why": "form"}, call, RUN_TASK, paper, wrong)
            refused(self, BadPaper, {"name": name, "index": 0, "why": "answer"}, call, RUN_TASK, paper[:1], great)
            refused(self, BadPaper, {"name": name, "index": 0, "why": "answer"}, call, RUN_TASK, paper, paper[:1])
            refused(self, BadPaper, {"name": name, "index": 1, "why": "order"}, call, RUN_TASK, (), paper[:1] * 2)
            refused(self, TooGreat, {"most": 20000}, call, RUN_TASK, great, "x")
            refused(self, TooGreat, {"most": 20000}, call, RUN_TASK, paper, great)


if __name__ == "__main__":
    unittest.main()
