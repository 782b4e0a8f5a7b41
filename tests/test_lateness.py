"""[21], [63], [64]: the TABLE OF LATENESS told."""

import unittest

from tests.examples import (
    DOC_LAB, EMPTY_TASK, LUCK_TASK, NEVER_RIGHT, NO_TUPLES, RUN_STANDINGS, RUN_TASK, SMALL_TASKS, STUCK_TASK,
    WRONG_STANDINGS, literal_broken, literal_done, literal_ranks, literal_rows, refused, some_standings)
from washedarms.errors import BadStanding, BadTask, BadTicks
from washedarms.forms import start
from washedarms.lateness import lateness_table

# None, as for a RANK that there isn't, is greater than each number.
EVER = 10 ** 9


def literal_table(task, standing, ticks):
    """The TABLE told, by [64]."""
    ranks = {one: EVER if rank is None else rank for one, rank in literal_ranks(task, standing).items()}
    if ranks[standing] <= (EVER - 1 if ticks is None else ticks):
        return None
    rows, ahead = {}, [standing]
    for one in ahead:
        if one in rows or literal_broken(task, one):
            continue
        rank, answers = ranks[one], []
        for _, ends in literal_rows(task, one) if rank > 1 else ():
            late, behind = [(late, behind) for late, behind in ends if literal_broken(task, behind)
                            or ranks[behind] >= (EVER if rank == EVER else rank - 1)][0]
            answers.append(late)
            ahead.append(behind)
        rows[one] = (None if rank == EVER else rank - 1, tuple(answers))
    return tuple((one,) + rows[one] for one in sorted(rows))


def literal_is_table(task, standing, ticks, paper):
    """Whether right rows are a TABLE OF LATENESS, by the words of [21]."""
    told = {one: left for one, left, _ in paper}
    if [one for one, _, _ in paper] != sorted(told):
        return False
    for one, left, answers in paper:
        if literal_done(task, one) or literal_broken(task, one):
            return False
        if left == 0:
            if answers != ():
                return False
            continue
        rows = literal_rows(task, one)
        if len(rows) != len(answers):
            return False
        for (_, ends), answer in zip(rows, answers):
            behind = dict(ends)[answer]
            if not literal_broken(task, behind) and not (
                    behind in told and (told[behind] is None or (left is not None and told[behind] >= left - 1))):
                return False
    if literal_broken(task, standing):
        return True
    return standing in told and (told[standing] is None or (ticks is not None and told[standing] >= ticks))


class TableTest(unittest.TestCase):
    def test_the_told_one(self):
        found = set()
        for task in SMALL_TASKS:
            for standing in some_standings(task, 5):
                rank = literal_ranks(task, standing)[standing]
                for ticks in (None, 0, 1, 2, 3, 5, 8) + (() if rank is None else (max(rank - 1, 0), rank)):
                    table = lateness_table(task, standing, ticks)
                    self.assertEqual(table, literal_table(task, standing, ticks))
                    if table is not None:
                        self.assertTrue(literal_is_table(task, standing, ticks, table))
                        self.assertFalse(rank is not None and literal_is_table(task, standing, rank, table))
                    found.add((table is None, ticks is None, rank is None))
        self.assertEqual(len(found), 5)

    def test_by_hand(self):
        first, second, third, fourth, done = RUN_STANDINGS
        step, wash = ((0, "step", 0),), ((0, "wash", 0),)
        cleaned, waited = (((1, 1),), ((0, ()),)), (((1, 1),), ((1, ()),))
        self.assertEqual(fourth, cleaned)
        self.assertEqual(lateness_table(RUN_TASK, fourth, 0), ((fourth, 0, ()),))
        self.assertIsNone(lateness_table(RUN_TASK, fourth, 1))
        self.assertEqual(lateness_table(RUN_TASK, third, 1), (
            (third, 1, ((), ((0, 0),))), (fourth, 0, ()), (waited, None, ((), ((0, 0),)))))
        self.assertEqual(lateness_table(RUN_TASK, first, 3), (
            (first, 3, ((), (), ((0, 0),))), (second, 2, (((0, 1),),)),
            (third, 1, ((), ((0, 0),))), (fourth, 0, ()), (waited, None, ((), ((0, 0),)))))
        self.assertIsNone(lateness_table(RUN_TASK, first, 4))
        self.assertIsNone(lateness_table(RUN_TASK, first, None))
        out = (((0, 0),), ((0, ("out",)),))
        self.assertEqual(lateness_table(RUN_TASK, out, None), ((out, None, ((),)),))

    def test_for_ever(self):
        for task in (STUCK_TASK, LUCK_TASK):
            table = lateness_table(task, start(task), None)
            self.assertTrue(all(row[1] is None for row in table))
            for ticks in (0, 1, 10 ** 6):
                self.assertEqual(lateness_table(task, start(task), ticks), table)

    def test_without_rows(self):
        for ticks in (None, 0, 7):
            self.assertEqual(lateness_table(RUN_TASK, (((1, 2),), ((1, ()),)), ticks), ())
            self.assertIsNone(lateness_table(RUN_TASK, (((2, 0),), ((1, ()),)), ticks))
            self.assertIsNone(lateness_table(EMPTY_TASK, start(EMPTY_TASK), ticks))

    def test_errors(self):
        refused(self, BadTask, {"word": "samples", "place": (1,)}, lateness_table, (DOC_LAB, 0), "x", "y")
        for wrong in WRONG_STANDINGS:
            with self.assertRaises(BadStanding):
                lateness_table(RUN_TASK, wrong, "x")
        for standing in (start(RUN_TASK), (((1, 2),), ((1, ()),)), (((2, 0),), ((1, ()),))):
            for wrong in NEVER_RIGHT + NO_TUPLES[1:2] + (-1, 10 ** 6 + 1, (), (1,)):
                refused(self, BadTicks, {"value": wrong}, lateness_table, RUN_TASK, standing, wrong)
            lateness_table(RUN_TASK, standing, 10 ** 6)


if __name__ == "__main__":
    unittest.main()
