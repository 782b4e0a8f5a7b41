"""[506], [507]: least parts of papers, least RANKS and greatest numbers."""

import random
import unittest
from itertools import combinations

from tests.examples import (
    DOC_LAB, EMPTY_TASK, LUCK_TASK, NO_TUPLES, RUN_STANDINGS, RUN_TASK, SMALL_TASKS, STUCK_TASK,
    WRONG_STANDINGS, changed, literal_rows, refused, wide_plans, wide_tables)
from tests.examples import RUN_BROKEN as BROKEN, RUN_OUT as OUT, RUN_PLAN as PLAN, RUN_TABLE as TABLE
from washedarms.errors import BadPaper, BadStanding, BadTask, NoRow, TooGreat
from washedarms.forms import start
from washedarms.lateness import lateness_table
from washedarms.planchecks import is_live_plan, plan_fault
from washedarms.tablechecks import is_lateness_table, table_fault
from washedarms.trims import loose_table, tight_plan, trimmed_plan, trimmed_table

FIRST, SECOND, THIRD, FOURTH, DONE = RUN_STANDINGS
WAITS = (((1, 1),), ((1, ()),))


def ends_behind(task, row, is_plan):
    """The STANDINGS to which a row of a plan or of a table paper leads."""
    if is_plan:
        return [behind for _, behind in dict(literal_rows(task, row[0]))[row[1]]]
    return [dict(ends)[answer] for (_, ends), answer in zip(literal_rows(task, row[0]), row[2])]


def literal_part(task, standing, paper, is_plan):
    """The rows that come from a STANDING."""
    rows = {row[0]: row for row in paper}
    found, ahead = {}, [standing]
    for one in ahead:
        if one in rows and one not in found:
            found[one] = rows[one]
            ahead += ends_behind(task, rows[one], is_plan)
    return tuple(sorted(found.values(), key=lambda row: row[0]))


class PartTest(unittest.TestCase):
    def test_plans(self):
        shorter = 0
        for task in SMALL_TASKS:
            for paper in wide_plans(task):
                self.assertIsNone(plan_fault(task, paper))
                for row in paper[::max(1, len(paper) // 5)]:
                    part = trimmed_plan(task, row[0], paper)
                    self.assertEqual(part, literal_part(task, row[0], paper, True))
                    self.assertTrue(is_live_plan(task, row[0], row[2], part))
                    shorter += len(part) < len(paper)
                    # Without one of them they are none.
                    for index in range(len(part)):
                        self.assertFalse(is_live_plan(task, row[0], 10 ** 9, part[:index] + part[index + 1:]))
        self.assertGreater(shorter, 20)

    def test_tables(self):
        shorter = 0
        for task in SMALL_TASKS:
            for paper in wide_tables(task):
                self.assertIsNone(table_fault(task, paper))
                for row in paper[::max(1, len(paper) // 5)]:
                    part = trimmed_table(task, row[0], paper)
                    self.assertEqual(part, literal_part(task, row[0], paper, False))
                    self.assertTrue(is_lateness_table(task, row[0], row[1], part))
                    shorter += len(part) < len(paper)
                    for index in list(range(len(part)))[:8]:
                        self.assertFalse(is_lateness_table(task, row[0], row[1], part[:index] + part[index + 1:]))
        self.assertGreater(shorter, 20)

    def test_every_part_has_them_all(self):
        for task in SMALL_TASKS:
            paper = wide_plans(task)[1]
            if not 1 < len(paper) < 9:
                continue
            for one, _, rank in paper:
                part = set(trimmed_plan(task, one, paper))
                for many in range(len(paper) + 1):
                    for rows in combinations(paper, many):
                        self.assertEqual(is_live_plan(task, one, rank, rows), plan_fault(task, rows) is None
                                         and part <= set(rows))

    def test_by_hand(self):
        for standing, rows in ((FIRST, 0), (SECOND, 1), (THIRD, 2), (FOURTH, 3)):
            self.assertEqual(trimmed_plan(RUN_TASK, standing, PLAN), PLAN[rows:])
        self.assertEqual(trimmed_plan(RUN_TASK, DONE, PLAN), ())
        self.assertEqual(trimmed_plan(RUN_TASK, DONE, ()), ())
        self.assertEqual(trimmed_plan(EMPTY_TASK, start(EMPTY_TASK), ()), ())
        for standing, rows in ((FIRST, (0, 1, 2, 3, 4)), (SECOND, (1, 2, 3, 4)), (THIRD, (2, 3, 4)), (FOURTH, (3,)),
                               (WAITS, (4,))):
            self.assertEqual(trimmed_table(RUN_TASK, standing, TABLE), tuple(TABLE[row] for row in rows))
        self.assertEqual(trimmed_table(RUN_TASK, BROKEN, TABLE), ())
        self.assertEqual(trimmed_table(RUN_TASK, BROKEN, ()), ())

    def test_without_a_row(self):
        for standing in (BROKEN, WAITS, OUT):
            refused(self, NoRow, {"standing": standing}, trimmed_plan, RUN_TASK, standing, PLAN)
        for standing in (DONE, OUT, (((0, 0),), ((1, ()),))):
            refused(self, NoRow, {"standing": standing}, trimmed_table, RUN_TASK, standing, TABLE)

    def test_errors(self):
        for call, name, paper in ((trimmed_plan, "plan", PLAN), (trimmed_table, "table", TABLE)):
            refused(self, BadTask, {"word": "samples", "place": (1,)}, call, (DOC_LAB, 0), "x", "y")
            for wrong in WRONG_STANDINGS:
                with self.assertRaises(BadStanding):
                    call(RUN_TASK, wrong, "y")
            for standing in (FIRST, DONE, BROKEN, OUT):
                for wrong in NO_TUPLES:
                    refused(self, BadPaper, {"name": name, "index": None, "why": "form"}, call, RUN_TASK, standing,
                            wrong)
                refused(self, BadPaper, {"name": name, "index": 1, "why": "order"}, call, RUN_TASK, standing,
                        paper[:1] * 2)
                refused(self, BadPaper, {"name": name, "index": 0, "why": "answer"}, call, RUN_TASK, standing,
                        paper[:1])
                refused(self, TooGreat, {"most": 20000}, call, RUN_TASK, standing, (None,) * 20001)


class NumbersTest(unittest.TestCase):
    def test_least_ranks(self):
        found = set()
        for task in SMALL_TASKS:
            for paper in wide_plans(task):
                tight = tight_plan(task, paper)
                self.assertEqual([row[:2] for row in tight], [row[:2] for row in paper])
                self.assertIsNone(plan_fault(task, tight))
                ranks = {row[0]: row[2] for row in tight}
                for index, row in enumerate(tight):
                    behind = [ranks[one] for one in ends_behind(task, row, True) if one in ranks]
                    self.assertEqual(row[2], 1 + max(behind, default=0))
                    # One less is a fault, or no RANK.
                    self.assertIsNotNone(plan_fault(task, changed(tight, (index, 2), row[2] - 1)))
                    self.assertLessEqual(row[2], paper[index][2])
                found.add(tight == paper)
        self.assertEqual(found, {True, False})

    def test_greatest_numbers(self):
        found = set()
        for task in SMALL_TASKS:
            for paper in wide_tables(task):
                loose = loose_table(task, paper)
                self.assertEqual([(row[0], row[2]) for row in loose], [(row[0], row[2]) for row in paper])
                self.assertIsNone(table_fault(task, loose))
                lefts = {row[0]: row[1] for row in loose}
                rng = random.Random(390)
                for index, row in enumerate(loose):
                    behind = [lefts[one] for one in ends_behind(task, row, False)
                              if one in lefts and lefts[one] is not None]
                    if row[2] == ():
                        self.assertEqual(row[1], 0)
                    else:
                        self.assertEqual(row[1], 1 + min(behind) if behind else None)
                    if row[1] is not None and rng.random() < 0.1:
                        self.assertIsNotNone(table_fault(task, changed(loose, (index, 1), row[1] + 1)))
                        self.assertIsNotNone(table_fault(task, changed(loose, (index, 1), None)))
                found.add((loose == paper, None in lefts.values()))
        self.assertEqual(len(found), 4)

    def test_by_hand(self):
        self.assertEqual(tight_plan(RUN_TASK, tuple((one, move, 7 * rank) for one, move, rank in PLAN)), PLAN)
        self.assertEqual(tight_plan(RUN_TASK, ()), ())
        self.assertEqual(loose_table(RUN_TASK, ()), ())
        self.assertEqual(loose_table(RUN_TASK, TABLE), TABLE)
        less = changed(changed(changed(TABLE, (4, 1), 5), (0, 1), 1), (1, 1), 1)
        self.assertIsNone(table_fault(RUN_TASK, less))
        self.assertEqual(loose_table(RUN_TASK, less), TABLE)
        # A row that leads to itself alone is one for ever.
        self.assertEqual(loose_table(RUN_TASK, ((OUT, 3, ((),)),)), ((OUT, None, ((),)),))
        for task in (STUCK_TASK, LUCK_TASK):
            table = lateness_table(task, start(task), None)
            self.assertEqual(loose_table(task, tuple((one, 4, answers) for one, _, answers in table)), table)

    def test_errors(self):
        for call, name, paper in ((tight_plan, "plan", PLAN), (loose_table, "table", TABLE)):
            refused(self, BadTask, {"word": "samples", "place": (1,)}, call, (DOC_LAB, 0), "x")
            for wrong in NO_TUPLES:
                refused(self, BadPaper, {"name": name, "index": None, "why": "form"}, call, RUN_TASK, wrong)
            refused(self, BadPaper, {"name": name, "index": 1, "why": "form"}, call, RUN_TASK, paper[:1] + (0,))
            refused(self, BadPaper, {"name": name, "index": 1, "why": "order"}, call, RUN_TASK, paper[:1] * 2)
            refused(self, BadPaper, {"name": name, "index": 0, "why": "answer"}, call, RUN_TASK, paper[:1])
            refused(self, TooGreat, {"most": 20000}, call, RUN_TASK, (None,) * 20001)


if __name__ == "__main__":
    unittest.main()
