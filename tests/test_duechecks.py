"""[503] to [505]: due papers are judged, and led against each other."""

import random
import unittest
from unittest import mock

from tests.examples import (
    DOC_LAB, NEVER_RIGHT, NO_TUPLES, RUN_STANDINGS, RUN_TASK, SMALL_TASKS, WINDOW_TASK, WRONG_STANDINGS, at, changed,
    is_plain, literal_broken, literal_claim_rows, literal_freed, literal_met, near_values, places, refused,
    some_dues, some_standings)
from washedarms import planchecks
from washedarms.duechecks import due_clash, due_plan_fault, due_table_fault, is_due_plan, is_due_table
from washedarms.duepapers import due_plan, due_table
from washedarms.dues import freed
from washedarms.errors import BadDues, BadPaper, BadStanding, BadTask, TooGreat
from washedarms.forms import is_standing, start

FIRST, SECOND, THIRD, FOURTH, DONE = RUN_STANDINGS
STEP, WASH = ((0, "step", 0),), ((0, "wash", 0),)
PLAN = ((FIRST, (4,), STEP), (SECOND, (3,), ()), (THIRD, (2,), WASH), (THIRD, (3,), WASH), (FOURTH, (1,), STEP),
        (FOURTH, (2,), STEP))
TABLE = ((FIRST, (1,), ((), (), ((0, 0),))), (FIRST, (2,), ((), (), ((0, 0),))), (SECOND, (1,), (((0, 1),),)))
BROKEN = (((1, 2),), ((1, ()),))


def literal_is_claim(game, dues, standing, left):
    """Whether a STANDING of the FREED TASK and a value are a claim of the game, by [503]."""
    if type(left) is not tuple or len(left) != len(dues):
        return False
    return all(type(due) is int and (due == -1 if asked == -1 or done == len(steps) else 1 <= due <= 60)
               for due, asked, (steps, _), (done, _) in zip(left, dues, game[1], standing[0]))


def literal_fault(task, standing, dues, paper, is_plan):
    """The first fault of a due paper, by [503]."""
    game, _ = literal_freed(task, standing, dues)
    if type(paper) is not tuple:
        return (None, "form")
    for index, row in enumerate(paper):
        if type(row) is not tuple or len(row) != 3 or not is_standing(game, row[0]) or type(row[2]) is not tuple:
            return (index, "form")
        one, left, told = row
        if not literal_is_claim(game, dues, one, left):
            return (index, "form")
        over = all(due == -1 for due in left) or literal_broken(game, one)
        if not over:
            rows = literal_claim_rows(game, (one, left))
            if not is_plain(told):
                return (index, "form")
            if is_plan and told not in dict(rows):
                return (index, "form")
            if not is_plan and (len(rows) != len(told) or not all(
                    answer in dict(ends) for (_, ends), answer in zip(rows, told))):
                return (index, "form")
        if index and (one, left) <= paper[index - 1][:2]:
            return (index, "order")
        if over:
            return (index, "over")
    claims = [row[:2] for row in paper]
    for index, (one, left, told) in enumerate(paper):
        rows = literal_claim_rows(game, (one, left))
        if is_plan:
            good = [behind is not None and (set(behind[1]) <= {-1} or behind in claims)
                    for _, behind in dict(rows)[told]]
        else:
            ends = [dict(ends)[answer] for (_, ends), answer in zip(rows, told)]
            good = [behind is None or (set(behind[1]) != {-1} and behind in claims) for behind in ends]
        if not all(good):
            return (index, "answer")
    return None


def games(seed, many, most):
    """Some TASKS with STANDINGS and DUES of which something is asked."""
    rng = random.Random(seed)
    return [(task, standing, dues) for task in SMALL_TASKS for standing in some_standings(task, 2)
            for dues in some_dues(rng, task, standing, many, most)]


class FaultTest(unittest.TestCase):
    def test_told_papers(self):
        for task, standing, dues in games(380, 4, 8):
            plan, table = due_plan(task, standing, dues), due_table(task, standing, dues)
            self.assertIs(is_due_plan(task, standing, dues, plan), plan is not None)
            self.assertIs(is_due_table(task, standing, dues, table), table is not None)
            if plan is not None:
                self.assertIsNone(due_plan_fault(task, standing, dues, plan))
                self.assertIs(is_due_table(task, standing, dues, ()), False)
            else:
                self.assertIsNone(due_table_fault(task, standing, dues, table))
                self.assertIs(is_due_plan(task, standing, dues, ()), False)

    def test_other_papers(self):
        rng = random.Random(381)
        words = set()
        for task, standing, dues in games(382, 2, 6):
            game, here = literal_freed(task, standing, dues)
            plan = due_plan(task, standing, dues)
            paper = due_table(task, standing, dues) if plan is None else plan
            call, judge = (due_table_fault, is_due_table) if plan is None else (due_plan_fault, is_due_plan)
            over = here, tuple(-1 for _ in dues), ()
            for other in near_values(paper, rng, 8) + [tuple(sorted(paper + (over,))), paper + (over,)]:
                fault = literal_fault(task, standing, dues, other, plan is not None)
                self.assertEqual(call(task, standing, dues, other), fault)
                right = set(dues) <= {-1} if plan is not None else literal_broken(game, here)
                right = fault is None and (right or (here, dues) in [row[:2] for row in other])
                self.assertIs(judge(task, standing, dues, other), right)
                words.add((plan is None, fault and fault[1]))
        self.assertEqual(words, {(table, word) for table in (True, False)
                                 for word in (None, "form", "order", "over", "answer")})

    def test_wrong_values(self):
        for wrong in NO_TUPLES + (list(PLAN),):
            self.assertEqual(due_plan_fault(RUN_TASK, FIRST, (4,), wrong), (None, "form"))
            self.assertEqual(due_table_fault(RUN_TASK, FIRST, (4,), wrong), (None, "form"))
            self.assertIs(is_due_plan(RUN_TASK, FIRST, (4,), wrong), False)
            self.assertIs(is_due_table(RUN_TASK, FIRST, (4,), wrong), False)
            # Also where no row of the claim is asked for.
            self.assertIs(is_due_plan(RUN_TASK, DONE, (-1,), wrong), False)
            self.assertIs(is_due_table(RUN_TASK, BROKEN, (4,), wrong), False)
        for paper, call in ((PLAN, due_plan_fault), (TABLE, due_table_fault)):
            for place in places(paper)[1:]:
                for wrong in NEVER_RIGHT + (None,):
                    told = at(paper, place)
                    if not (type(told) is type(wrong) is str and told == wrong):
                        self.assertEqual(call(RUN_TASK, FIRST, (4,), changed(paper, place, wrong)), (place[0], "form"))

    def test_faults_of_plans(self):
        self.assertIsNone(due_plan_fault(RUN_TASK, FIRST, (4,), ()))
        self.assertIsNone(due_plan_fault(RUN_TASK, FIRST, (60,), PLAN))
        self.assertIsNone(due_plan_fault(RUN_TASK, FIRST, (4,), PLAN[2:]))
        for paper, fault in (
                (PLAN[::-1], (1, "order")), (PLAN[:1] * 2, (1, "order")), (PLAN[:4], (2, "answer")),
                (PLAN[:2] + PLAN[3:], (1, "answer")), (changed(PLAN, (0, 2), ()), (0, "answer")),
                (((FOURTH, (2,), ()),), (0, "answer")), (((FOURTH, (2,), WASH),), (0, "answer")),
                (((THIRD, (1,), WASH),), (0, "answer")), (((FOURTH, (1,), STEP),), None),
                (((FOURTH, (60,), STEP),), None), (((FOURTH, (61,), STEP),), (0, "form")),
                (((FOURTH, (0,), STEP),), (0, "form")), (((FOURTH, (1, 1), STEP),), (0, "form")),
                (((FOURTH, (-1,), STEP),), (0, "form")), (((DONE, (-1,), ()),), (0, "over")),
                (((DONE, (1,), ()),), (0, "form")), (((BROKEN, (1,), ("any",)),), (0, "over")),
                (((BROKEN, (1,), []),), (0, "form")), (((BROKEN, (1,), ()), (BROKEN, (1,), ())), (0, "over")),
                (PLAN + ((FIRST, (4,), (0,)),), (6, "form")), (((FIRST, (4,), STEP + STEP),), (0, "form"))):
            self.assertEqual(due_plan_fault(RUN_TASK, FIRST, (4,), paper), fault, paper)
        # Of a free sample nothing is asked, and its windows are no windows.
        self.assertEqual(due_plan_fault(RUN_TASK, FIRST, (-1,), PLAN), (0, "form"))
        self.assertEqual(due_plan_fault(RUN_TASK, FIRST, (-1,), ((FIRST, (-1,), ("any",)),)), (0, "over"))
        self.assertEqual(due_plan_fault(RUN_TASK, FIRST, (-1,), ((FOURTH, (-1,), ()),)), (0, "form"))

    def test_faults_of_tables(self):
        self.assertIsNone(due_table_fault(RUN_TASK, FIRST, (4,), ()))
        for paper, fault in (
                (TABLE, None), (TABLE[:1], None), (TABLE[1:], (0, "answer")), (TABLE[::2], None),
                (TABLE[:2], (1, "answer")), (TABLE[::-1], (1, "order")), (TABLE[:1] * 2, (1, "order")),
                (changed(TABLE, (0, 2), ()), (0, "form")), (changed(TABLE, (0, 2), ((),)), (0, "form")),
                (changed(TABLE, (0, 2), TABLE[0][2][::-1]), (0, "form")),
                (((FOURTH, (1,), ((), (), ())),), (0, "form")),
                (((FOURTH, (1,), ((), ((0, 0),), ((0, 0),))),), (0, "answer")), (((DONE, (-1,), ()),), (0, "over")),
                (((BROKEN, (1,), ("any",)),), (0, "over")), (((THIRD, (1,), ((), ((0, 0),))),), None)):
            self.assertEqual(due_table_fault(RUN_TASK, FIRST, (4,), paper), fault, paper)
        # With two samples: a LATENESS that leads to a kept claim doesn't serve.
        half = (((2, 0), (0, 0)), ((0, ()),))
        rows = ((half, (-1, 1), ((), ((0, 1),), ((0, 0),))),)
        self.assertEqual(due_table_fault(WINDOW_TASK, half, (-1, 1), rows), (0, "answer"))

    def test_too_many_rows(self):
        great = (None,) * 20001
        for call in (due_plan_fault, due_table_fault, is_due_plan, is_due_table):
            refused(self, TooGreat, {"most": 20000}, call, RUN_TASK, FIRST, (4,), great)
            self.assertIn(call(RUN_TASK, FIRST, (4,), great[1:]), ((0, "form"), False))
        with mock.patch.object(planchecks, "MOST_ROWS", 6):
            self.assertIs(is_due_plan(RUN_TASK, FIRST, (4,), PLAN), True)
        with mock.patch.object(planchecks, "MOST_ROWS", 5):
            refused(self, TooGreat, {"most": 5}, is_due_plan, RUN_TASK, FIRST, (4,), PLAN)

    def test_rows_of_the_claim(self):
        for standing, dues, right in ((FIRST, (4,), True), (FIRST, (3,), False), (FIRST, (5,), False),
                                      (THIRD, (2,), True), (THIRD, (4,), False), (DONE, (-1,), False),
                                      (BROKEN, (4,), False)):
            self.assertIs(is_due_plan(RUN_TASK, standing, dues, PLAN), right)
        self.assertIs(is_due_plan(RUN_TASK, DONE, (-1,), ()), True)
        self.assertIs(is_due_plan(RUN_TASK, BROKEN, (-1,), ()), True)
        for standing, dues, right in ((FIRST, (1,), True), (FIRST, (2,), True), (FIRST, (3,), False),
                                      (BROKEN, (3,), True), (DONE, (-1,), False)):
            self.assertIs(is_due_table(RUN_TASK, standing, dues, TABLE), right)
        self.assertIs(is_due_table(RUN_TASK, BROKEN, (4,), ()), True)
        self.assertIs(is_due_table(RUN_TASK, BROKEN, (-1,), ()), False)

    def test_errors(self):
        for call in (due_plan_fault, due_table_fault, is_due_plan, is_due_table):
            refused(self, BadTask, {"word": "samples", "place": (1,)}, call, (DOC_LAB, 0), "x", "y", "z")
            for wrong in WRONG_STANDINGS:
                with self.assertRaises(BadStanding):
                    call(RUN_TASK, wrong, "y", "z")
            for wrong, place in ((None, -1), ((0,), 0), ((61,), 0), ((True,), 0), ([4], -1)):
                refused(self, BadDues, {"place": place}, call, RUN_TASK, FIRST, wrong, (None,) * 20001)


def literal_clash(task, standing, dues, plan, table):
    """What due_clash tells, by the words of [505]."""
    game, here = literal_freed(task, standing, dues)
    plans = {row[:2]: (index, row[2]) for index, row in enumerate(plan)}
    tables = {row[:2]: (index, row[2]) for index, row in enumerate(table)}
    claim, walk = (here, dues), ()
    if claim not in plans or claim not in tables:
        return None
    while True:
        rows = literal_claim_rows(game, claim)
        move = plans[claim][1]
        answer = tables[claim][1][[told for told, _ in rows].index(move)]
        behind = dict(dict(rows)[move])[answer]
        walk += ((move, answer),)
        if behind is None or (set(behind[1]) != {-1} and behind not in plans):
            return ("plan", plans[claim][0], walk)
        if set(behind[1]) == {-1} or behind not in tables:
            return ("table", tables[claim][0], walk)
        claim = behind


class ClashTest(unittest.TestCase):
    def test_guessed_papers(self):
        rng = random.Random(383)
        found, lengths = set(), set()
        for task, standing, dues in games(384, 2, 6):
            game, here = literal_freed(task, standing, dues)
            if literal_broken(game, here):
                self.assertIsNone(due_clash(task, standing, dues, (), ()))
                continue
            claims = literal_met((here, dues), lambda claim: literal_claim_rows(game, claim))[0]
            claims = sorted(claim for claim in claims if literal_claim_rows(game, claim))
            for _ in range(4):
                plan = tuple(claim + (rng.choice(literal_claim_rows(game, claim))[0],) for claim in claims
                             if claim == (here, dues) or rng.random() < 0.9)
                table = tuple(claim + (tuple(rng.choice(ends)[0] for _, ends in literal_claim_rows(game, claim)),)
                              for claim in claims if claim == (here, dues) or rng.random() < 0.9)
                told = due_clash(task, standing, dues, plan, table)
                self.assertEqual(told, literal_clash(task, standing, dues, plan, table))
                self.assertEqual(due_clash(task, standing, dues, plan[1:], ()), None)
                found.add(told and told[0])
                if told is not None:
                    lengths.add(len(told[2]))
                    self.assertIsNotNone((due_plan_fault if told[0] == "plan" else due_table_fault)(
                        task, standing, dues, plan if told[0] == "plan" else table))
                right = due_plan(task, standing, dues)
                if right:
                    self.assertEqual(due_clash(task, standing, dues, right, table)[0], "table")
                elif right is None:
                    self.assertEqual(due_clash(task, standing, dues, plan, due_table(task, standing, dues))[0], "plan")
        self.assertEqual(found, {None, "plan", "table"})
        self.assertGreaterEqual(max(lengths), 3)

    def test_by_hand(self):
        short = ((FIRST, (3,), STEP), (SECOND, (2,), ()), (THIRD, (1,), WASH), (THIRD, (2,), WASH),
                 (FOURTH, (1,), STEP))
        table = due_table(RUN_TASK, FIRST, (3,))
        self.assertEqual(due_clash(RUN_TASK, FIRST, (3,), short, table), (
            "plan", 2, ((STEP, ()), ((), ((0, 1),)), (WASH, ((0, 0),)))))
        long = ((FIRST, (4,), ((), ((0, 1),), ((0, 0),))), (THIRD, (3,), ((), ((0, 0),))),
                (FOURTH, (2,), ((), ((0, 0),), ((0, 0),))))
        self.assertEqual(due_clash(RUN_TASK, FIRST, (4,), PLAN, long), (
            "table", 2, ((STEP, ((0, 1),)), (WASH, ((0, 0),)), (STEP, ((0, 0),)))))
        self.assertEqual(due_clash(RUN_TASK, FIRST, (4,), PLAN, long[:2]), (
            "table", 1, ((STEP, ((0, 1),)), (WASH, ((0, 0),)))))
        self.assertIsNone(due_clash(RUN_TASK, FIRST, (5,), PLAN, long))
        self.assertIsNone(due_clash(RUN_TASK, FIRST, (4,), PLAN, long[1:]))
        self.assertIsNone(due_clash(RUN_TASK, FIRST, (4,), PLAN[1:], long))
        self.assertEqual(freed(RUN_TASK, FIRST, (4,)), (RUN_TASK, FIRST))
        self.assertIsNone(due_clash(RUN_TASK, start(RUN_TASK), (-1,), (), ()))

    def test_errors(self):
        refused(self, BadTask, {"word": "samples", "place": (1,)}, due_clash, (DOC_LAB, 0), "x", "y", "z", "u")
        with self.assertRaises(BadStanding):
            due_clash(RUN_TASK, "x", "y", "z", "u")
        refused(self, BadDues, {"place": 0}, due_clash, RUN_TASK, FIRST, (0,), "z", "u")
        for wrong in NO_TUPLES:
            refused(self, BadPaper, {"name": "plan", "index": None, "why": "form"}, due_clash, RUN_TASK, FIRST, (4,),
                    wrong, "u")
            refused(self, BadPaper, {"name": "table", "index": None, "why": "form"}, due_clash, RUN_TASK, FIRST, (4,),
                    PLAN, wrong)
        for index, why, paper in ((1, "form", PLAN[:1] + ((SECOND, (0,), ()),)), (1, "order", PLAN[:1] * 2),
                                  (6, "over", PLAN + ((DONE, (-1,), ()),))):
            refused(self, BadPaper, {"name": "plan", "index": index, "why": why}, due_clash, RUN_TASK, FIRST, (4,),
                    paper, "u")
        for index, why, paper in ((0, "form", ((FIRST, (4,), ((),)),)), (1, "order", TABLE[:1] * 2),
                                  (3, "over", TABLE + ((DONE, (-1,), ()),))):
            refused(self, BadPaper, {"name": "table", "index": index, "why": why}, due_clash, RUN_TASK, FIRST, (4,),
                    PLAN, paper)
        great = (None,) * 20001
        refused(self, TooGreat, {"most": 20000}, due_clash, RUN_TASK, FIRST, (4,), great, "u")
        refused(self, TooGreat, {"most": 20000}, due_clash, RUN_TASK, FIRST, (4,), PLAN, great)
        # Faults beside other rows are not refused.
        self.assertIsNone(due_clash(RUN_TASK, THIRD, (9,), PLAN[:1], TABLE[1:]))


if __name__ == "__main__":
    unittest.main()
