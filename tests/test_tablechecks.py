"""[21], [501], [502]: table papers are judged."""

import random
import unittest
from unittest import mock

from tests.examples import (
    DOC_LAB, EMPTY_TASK, NEVER_RIGHT, NO_TUPLES, RUN_STANDINGS, RUN_TASK, SMALL_TASKS, STUCK_TASK, WRONG_STANDINGS,
    at, changed, is_plain, literal_broken, literal_done, literal_rows, near_values, places, refused, some_standings)
from tests.examples import RUN_BROKEN as BROKEN, RUN_OUT as OUT, RUN_TABLE as TABLE
from washedarms import planchecks
from washedarms.errors import BadStanding, BadTask, BadTicks, TooGreat
from washedarms.forms import is_standing, start
from washedarms.lateness import lateness_table
from washedarms.ranks import soonest
from washedarms.tablechecks import is_lateness_table, table_fault

FIRST, _, THIRD, FOURTH, DONE = RUN_STANDINGS
WAITS = (((1, 1),), ((1, ()),))


def literal_fault(task, paper):
    """The first fault of a table paper, by [501]."""
    if type(paper) is not tuple:
        return (None, "form")
    for index, row in enumerate(paper):
        if type(row) is not tuple or len(row) != 3 or not is_standing(task, row[0]):
            return (index, "form")
        standing, left, answers = row
        if type(answers) is not tuple or not (left is None or type(left) is int and left >= 0):
            return (index, "form")
        over = literal_done(task, standing) or literal_broken(task, standing)
        if not over:
            rows = literal_rows(task, standing) if left != 0 else ()
            if len(rows) != len(answers) or not is_plain(answers):
                return (index, "form")
            if not all(answer in dict(ends) for (_, ends), answer in zip(rows, answers)):
                return (index, "form")
        if index and standing <= paper[index - 1][0]:
            return (index, "order")
        if over:
            return (index, "over")
    lefts = {standing: left for standing, left, _ in paper}
    for index, (standing, left, answers) in enumerate(paper):
        for (_, ends), answer in zip(literal_rows(task, standing), answers):
            behind = dict(ends)[answer]
            if literal_broken(task, behind):
                continue
            if behind not in lefts or not (
                    lefts[behind] is None or (left is not None and lefts[behind] >= left - 1)):
                return (index, "answer")
    return None


class FaultTest(unittest.TestCase):
    def test_told_tables(self):
        for task in SMALL_TASKS:
            for standing in some_standings(task, 4):
                rank = soonest(task, standing)
                for ticks in (None, 0, 1, 4) + ((max(rank - 1, 0),) if rank else ()):
                    table = lateness_table(task, standing, ticks)
                    if table is None:
                        continue
                    self.assertIsNone(table_fault(task, table))
                    self.assertIs(is_lateness_table(task, standing, ticks, table), True)
                    self.assertIs(is_lateness_table(task, standing, None, table), rank is None)
                    if rank is not None:
                        self.assertIs(is_lateness_table(task, standing, rank - 1, table), True)
                        self.assertIs(is_lateness_table(task, standing, rank, table), False)

    def test_other_papers(self):
        rng = random.Random(360)
        words = set()
        for task in SMALL_TASKS:
            for standing in some_standings(task, 3):
                table = lateness_table(task, standing, 0) or ()
                for other in near_values(table, rng, 6):
                    fault = literal_fault(task, other)
                    self.assertEqual(table_fault(task, other), fault)
                    for ticks in (1, None):
                        right = fault is None and (literal_broken(task, standing) or any(
                            row[0] == standing and (row[1] is None or (ticks and row[1] >= ticks)) for row in other))
                        self.assertIs(is_lateness_table(task, standing, ticks, other), right)
                    words.add(fault and fault[1])
                for index in rng.sample(range(len(table)), min(3, len(table))):
                    for left in (None, 0, 2, 10 ** 30):
                        other = changed(table, (index, 1), left)
                        self.assertEqual(table_fault(task, other), literal_fault(task, other))
                for one in some_standings(task, 3):
                    other = table + ((one, 0, ()),)
                    other = other if one in [told[0] for told in table] else tuple(sorted(other))
                    self.assertEqual(table_fault(task, other), literal_fault(task, other))
                    words.add((literal_fault(task, other) or (0, None))[1])
        self.assertEqual(words, {None, "form", "order", "over", "answer"})

    def test_wrong_values(self):
        for wrong in NO_TUPLES + (list(TABLE),):
            self.assertEqual(table_fault(RUN_TASK, wrong), (None, "form"))
            self.assertIs(is_lateness_table(RUN_TASK, FIRST, 3, wrong), False)
            self.assertIs(is_lateness_table(RUN_TASK, BROKEN, 3, wrong), False)
        for place in places(TABLE)[1:]:
            for wrong in NEVER_RIGHT:
                told = at(TABLE, place)
                if place[1:] == (1,) and type(wrong) is int and wrong > 0 or type(told) is type(wrong) is str and (
                        told == wrong):
                    continue
                self.assertEqual(table_fault(RUN_TASK, changed(TABLE, place, wrong)), (place[0], "form"),
                                 (place, wrong))

    def test_faults_by_hand(self):
        for paper in ((), TABLE, TABLE[4:], TABLE[2:], TABLE[3:4], ((OUT, None, ((),)),), ((OUT, 7, ((),)),)[:0],
                      ((FIRST, 0, ()), (THIRD, 0, ())), changed(TABLE, (0, 1), 1), changed(TABLE, (1, 1), 1)[1:]):
            self.assertIsNone(table_fault(RUN_TASK, paper))
        for paper, fault in (
                (TABLE[::-1], (1, "order")), (TABLE[:1] * 2, (1, "order")), (TABLE[:4], (2, "answer")),
                (TABLE[1:], None), (TABLE[:1] + TABLE[2:], (0, "answer")),
                (changed(TABLE, (0, 1), 4), (0, "answer")), (changed(TABLE, (0, 1), None), (0, "answer")),
                (changed(TABLE, (1, 1), 1), (0, "answer")), (changed(TABLE, (2, 1), 2), (2, "answer")),
                (changed(TABLE, (2, 1), None), (2, "answer")), (changed(TABLE, (1, 1), 3), (1, "answer")),
                (changed(TABLE, (0, 2, 1), ((0, 1),)), (0, "answer")), (changed(TABLE, (3, 2), ((),)), (3, "form")),
                (changed(TABLE, (0, 2), ((), ())), (0, "form")), (changed(TABLE, (0, 2), ()), (0, "form")),
                (changed(TABLE, (0, 2), TABLE[0][2] + ((),)), (0, "form")),
                (changed(TABLE, (0, 2), TABLE[0][2][::-1]), (0, "form")), (changed(TABLE, (4, 1), 0), (4, "form")),
                (changed(TABLE, (0, 1), -1), (0, "form")), (changed(TABLE, (0,), TABLE[0][:2]), (0, "form")),
                (changed(TABLE, (0,), TABLE[0] + (0,)), (0, "form")), (TABLE + ((DONE, 0, ()),), (5, "over")),
                (TABLE + ((DONE, None, ("any",)),), (5, "over")), (TABLE + ((DONE, None, []),), (5, "form")),
                (TABLE + ((DONE, -1, ()),), (5, "form")), (((DONE, 0, ()), (FIRST, 0, ())), (0, "over")),
                (((FIRST, 0, ()), (BROKEN, 0, ()), (DONE, 0, ())), (1, "over")),
                (((FIRST, 0, ()), (BROKEN, 0, ()), (DONE, True, ())), (1, "over")),
                (((FIRST, 0, ()), (DONE, True, ()), (BROKEN, 0, ())), (1, "form")),
                (TABLE[:4] + (changed(TABLE[4], (1,), 0),), (4, "form")), (((OUT, 7, ((),)),), None)):
            self.assertEqual(table_fault(RUN_TASK, paper), fault, paper)

    def test_too_many_rows(self):
        refused(self, TooGreat, {"most": 20000}, table_fault, RUN_TASK, (None,) * 20001)
        refused(self, TooGreat, {"most": 20000}, is_lateness_table, RUN_TASK, FIRST, None, (None,) * 20001)
        self.assertEqual(table_fault(RUN_TASK, (None,) * 20000), (0, "form"))
        self.assertEqual(table_fault(RUN_TASK, [None] * 20001), (None, "form"))
        with mock.patch.object(planchecks, "MOST_ROWS", 5):
            self.assertIsNone(table_fault(RUN_TASK, TABLE))
        with mock.patch.object(planchecks, "MOST_ROWS", 4):
            refused(self, TooGreat, {"most": 4}, table_fault, RUN_TASK, TABLE)


class LatenessTableTest(unittest.TestCase):
    def test_by_hand(self):
        for standing, ticks, right in ((FIRST, 3, True), (FIRST, 4, False), (FIRST, None, False), (FIRST, 0, True),
                                       (WAITS, None, True), (WAITS, 10 ** 900, True), (FOURTH, 0, True),
                                       (FOURTH, 1, False), (DONE, 0, False), (BROKEN, None, True), (BROKEN, 7, True),
                                       (OUT, 0, False)):
            self.assertIs(is_lateness_table(RUN_TASK, standing, ticks, TABLE), right)
        self.assertIs(is_lateness_table(RUN_TASK, BROKEN, None, ()), True)
        self.assertIs(is_lateness_table(EMPTY_TASK, start(EMPTY_TASK), 0, ()), False)
        table = lateness_table(STUCK_TASK, start(STUCK_TASK), None)
        self.assertIs(is_lateness_table(STUCK_TASK, start(STUCK_TASK), None, table), True)

    def test_errors(self):
        refused(self, BadTask, {"word": "samples", "place": (1,)}, table_fault, (DOC_LAB, 0), ())
        refused(self, BadTask, {"word": "samples", "place": (1,)}, is_lateness_table, (DOC_LAB, 0), "x", "y", "z")
        for wrong in WRONG_STANDINGS:
            with self.assertRaises(BadStanding):
                is_lateness_table(RUN_TASK, wrong, "x", "y")
        for wrong in NEVER_RIGHT + (-1, (1,)):
            if type(wrong) is int and wrong > 0:
                continue
            for standing in (FIRST, BROKEN):
                refused(self, BadTicks, {"value": wrong}, is_lateness_table, RUN_TASK, standing, wrong,
                        (None,) * 20001)


if __name__ == "__main__":
    unittest.main()
