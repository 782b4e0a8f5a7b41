"""[20], [501], [502]: plan papers are judged."""

import random
import unittest
from unittest import mock

from tests.examples import (
    DOC_LAB, EMPTY_TASK, NEVER_RIGHT, NO_TUPLES, RUN_STANDINGS, RUN_TASK, SMALL_TASKS, WRONG_STANDINGS, at, changed,
    is_plain, literal_broken, literal_done, literal_rows, near_values, places, refused, some_standings)
from tests.examples import RUN_BROKEN as BROKEN, RUN_PLAN as PLAN
from washedarms import planchecks
from washedarms.errors import BadStanding, BadTask, BadTicks, TooGreat
from washedarms.forms import is_standing, start
from washedarms.planchecks import is_live_plan, plan_fault
from washedarms.plans import live_plan
from washedarms.ranks import soonest

STEP, WASH = ((0, "step", 0),), ((0, "wash", 0),)
FIRST, SECOND, _, FOURTH, DONE = RUN_STANDINGS


def literal_fault(task, paper):
    """The first fault of a plan paper, by [501]."""
    if type(paper) is not tuple:
        return (None, "form")
    for index, row in enumerate(paper):
        if type(row) is not tuple or len(row) != 3 or not is_standing(task, row[0]):
            return (index, "form")
        standing, move, rank = row
        over = literal_done(task, standing) or literal_broken(task, standing)
        if type(move) is not tuple or type(rank) is not int or rank < 1:
            return (index, "form")
        if not over and not (is_plain(move) and move in [told for told, _ in literal_rows(task, standing)]):
            return (index, "form")
        if index and standing <= paper[index - 1][0]:
            return (index, "order")
        if over:
            return (index, "over")
    ranks = {standing: rank for standing, _, rank in paper}
    for index, (standing, move, rank) in enumerate(paper):
        for _, behind in dict(literal_rows(task, standing))[move]:
            if not literal_done(task, behind) and not (behind in ranks and ranks[behind] < rank):
                return (index, "answer")
    return None


class FaultTest(unittest.TestCase):
    def test_told_plans(self):
        for task in SMALL_TASKS:
            for standing in some_standings(task, 4):
                plan = live_plan(task, standing)
                rank = soonest(task, standing)
                if plan is not None:
                    self.assertIsNone(plan_fault(task, plan))
                    for ticks, right in ((rank, True), (rank + 1, True), (10 ** 900, True), (rank - 1, False)):
                        if ticks >= 0:
                            self.assertIs(is_live_plan(task, standing, ticks, plan), right or rank == 0)
                else:
                    self.assertIs(is_live_plan(task, standing, 10 ** 9, ()), False)

    def test_other_papers(self):
        rng = random.Random(350)
        words = set()
        for task in SMALL_TASKS:
            for standing in some_standings(task, 3):
                plan = live_plan(task, standing) or ()
                for other in near_values(plan, rng, 12):
                    fault = literal_fault(task, other)
                    self.assertEqual(plan_fault(task, other), fault)
                    right = fault is None and (literal_done(task, standing) or any(
                        row[0] == standing and row[2] <= 5 for row in other))
                    self.assertIs(is_live_plan(task, standing, 5, other), right)
                    words.add(fault and fault[1])
                for one in some_standings(task, 3):
                    row = (one, (), rng.randint(1, 3))
                    other = tuple(sorted(plan + (row,))) if one not in [told[0] for told in plan] else plan + (row,)
                    self.assertEqual(plan_fault(task, other), literal_fault(task, other))
                    words.add((literal_fault(task, other) or (0, None))[1])
        self.assertEqual(words, {None, "form", "order", "over", "answer"})

    def test_wrong_values(self):
        for wrong in NO_TUPLES + (list(PLAN),):
            self.assertEqual(plan_fault(RUN_TASK, wrong), (None, "form"))
            self.assertIs(is_live_plan(RUN_TASK, FIRST, 4, wrong), False)
            # Of a done STANDING, too, the paper must have no fault.
            self.assertIs(is_live_plan(RUN_TASK, DONE, 4, wrong), False)
        for place in places(PLAN)[1:]:
            for wrong in NEVER_RIGHT + (None,):
                told = at(PLAN, place)
                if place[1:] == (2,) and type(wrong) is int and wrong > 0 or type(told) is type(wrong) is str and (
                        told == wrong):
                    continue
                self.assertEqual(plan_fault(RUN_TASK, changed(PLAN, place, wrong)), (place[0], "form"), (place, wrong))

    def test_faults_by_hand(self):
        self.assertIsNone(plan_fault(RUN_TASK, ()))
        self.assertIsNone(plan_fault(RUN_TASK, PLAN))
        self.assertIsNone(plan_fault(RUN_TASK, PLAN[2:]))
        self.assertIsNone(plan_fault(RUN_TASK, ((FOURTH, STEP, 10 ** 900),)))
        for paper, fault in (
                (PLAN[::-1], (1, "order")), (PLAN[:1] * 2, (1, "order")),
                (PLAN[:2] + (changed(PLAN[1], (2,), 9),), (2, "order")),
                (PLAN[1:], None), (PLAN[:3], (2, "answer")), (PLAN[:1] + PLAN[2:], (0, "answer")),
                (changed(PLAN, (0, 2), 3), (0, "answer")), (changed(PLAN, (3, 2), 2), (2, "answer")),
                (changed(PLAN, (0, 1), ()), (0, "answer")), (changed(PLAN, (0, 1), WASH), (0, "answer")),
                (changed(PLAN, (1, 1), WASH), (1, "form")), (changed(PLAN, (2, 1), STEP), (2, "form")),
                (changed(PLAN, (0, 2), 0), (0, "form")), (changed(PLAN, (0,), PLAN[0] + (1,)), (0, "form")),
                (changed(PLAN, (0,), PLAN[0][:2]), (0, "form")), (PLAN + ((DONE, (), 1),), (4, "over")),
                (PLAN + ((DONE, ("any", 1), 1),), (4, "over")), (PLAN + ((DONE, [], 1),), (4, "form")),
                (PLAN + ((DONE, (), 0),), (4, "form")), (((DONE, (), 1), (FIRST, (), 1)), (0, "over")),
                (((FIRST, (), 1), (DONE, (), 1), (BROKEN, (), 1)), (1, "over")),
                (PLAN[3:] + ((BROKEN, (), 1),), (1, "over")), (((BROKEN, (), 1), (FIRST, (), 1)), (0, "over")),
                (PLAN[3:] + ((FIRST, (), True),), (1, "form")),
                # Rows by themselves are looked at ahead of what they lead to.
                (PLAN[:3] + (changed(PLAN[3], (2,), 0),), (3, "form"))):
            self.assertEqual(plan_fault(RUN_TASK, paper), fault, paper)

    def test_too_many_rows(self):
        refused(self, TooGreat, {"most": 20000}, plan_fault, RUN_TASK, (None,) * 20001)
        refused(self, TooGreat, {"most": 20000}, is_live_plan, RUN_TASK, FIRST, 4, (None,) * 20001)
        self.assertEqual(plan_fault(RUN_TASK, (None,) * 20000), (0, "form"))
        self.assertIs(is_live_plan(RUN_TASK, FIRST, 4, (None,) * 20000), False)
        self.assertEqual(plan_fault(RUN_TASK, [None] * 20001), (None, "form"))
        with mock.patch.object(planchecks, "MOST_ROWS", 4):
            self.assertIsNone(plan_fault(RUN_TASK, PLAN))
        with mock.patch.object(planchecks, "MOST_ROWS", 3):
            refused(self, TooGreat, {"most": 3}, plan_fault, RUN_TASK, PLAN)


class LivePlanTest(unittest.TestCase):
    def test_by_hand(self):
        for standing, ticks, right in ((FIRST, 4, True), (FIRST, 3, False), (SECOND, 3, True), (SECOND, 2, False),
                                       (FOURTH, 0, False), (DONE, 0, True), ((((2, 0),), ((1, ()),)), 0, True),
                                       (BROKEN, 9, False), ((((1, 1),), ((1, ()),)), 9, False)):
            self.assertIs(is_live_plan(RUN_TASK, standing, ticks, PLAN), right)
        self.assertIs(is_live_plan(RUN_TASK, DONE, 0, ()), True)
        self.assertIs(is_live_plan(EMPTY_TASK, start(EMPTY_TASK), 0, ()), True)
        self.assertIs(is_live_plan(RUN_TASK, FIRST, 4, ()), False)

    def test_errors(self):
        refused(self, BadTask, {"word": "samples", "place": (1,)}, plan_fault, (DOC_LAB, 0), ())
        refused(self, BadTask, {"word": "samples", "place": (1,)}, is_live_plan, (DOC_LAB, 0), "x", "y", "z")
        for wrong in WRONG_STANDINGS:
            with self.assertRaises(BadStanding):
                is_live_plan(RUN_TASK, wrong, "x", "y")
        for wrong in NEVER_RIGHT + (None, -1, (1,)):
            if type(wrong) is int and wrong > 0:
                continue
            for standing in (FIRST, DONE):
                refused(self, BadTicks, {"value": wrong}, is_live_plan, RUN_TASK, standing, wrong, (None,) * 20001)


if __name__ == "__main__":
    unittest.main()
