"""[66]: the DUE PLAN and the DUE TABLE told."""

import random
import unittest

from tests.examples import (
    EMPTY_TASK, RUN_STANDINGS, RUN_TASK, SMALL_TASKS, STUCK_TASK, literal_broken, literal_can_be_kept,
    literal_claim_rows, literal_freed, literal_kept, some_dues, some_standings)
from washedarms.duepapers import due_plan, due_table
from washedarms.forms import start


def literal_due_plan(task, standing, dues):
    """The DUE PLAN told, by [66]."""
    if not literal_can_be_kept(task, standing, dues):
        return None
    game, here = literal_freed(task, standing, dues)
    rows, ahead = {}, [(here, dues)]
    for claim in ahead:
        for move, ends in literal_claim_rows(game, claim) if claim not in rows else ():
            if all(literal_kept(game, behind) for _, behind in ends):
                rows[claim] = move
                ahead += [behind for _, behind in ends]
                break
    return tuple(claim + (rows[claim],) for claim in sorted(rows))


def literal_due_table(task, standing, dues):
    """The DUE TABLE told, by [66]."""
    game, here = literal_freed(task, standing, dues)
    if literal_broken(game, here):
        return ()
    if literal_kept(game, (here, dues)):
        return None
    rows, ahead = {}, [(here, dues)]
    for claim in ahead:
        if claim is not None and claim not in rows:
            found = [[end for end in ends if not literal_kept(game, end[1])][0]
                     for _, ends in literal_claim_rows(game, claim)]
            rows[claim] = tuple(late for late, _ in found)
            ahead += [behind for _, behind in found]
    return tuple(claim + (rows[claim],) for claim in sorted(rows))


class DuePapersTest(unittest.TestCase):
    def test_by_the_words(self):
        rng = random.Random(340)
        found = set()
        for task in SMALL_TASKS:
            for standing in some_standings(task, 4):
                for dues in some_dues(rng, task, standing, 4, 8):
                    plan, table = due_plan(task, standing, dues), due_table(task, standing, dues)
                    self.assertEqual(plan, literal_due_plan(task, standing, dues))
                    self.assertEqual(table, literal_due_table(task, standing, dues))
                    # Just one of both sorts there is.
                    self.assertEqual(plan is None, table is not None)
                    found.add((plan is None, len(plan or table or ()) > 1, plan == (), table == ()))
        self.assertEqual(len(found), 6)

    def test_by_hand(self):
        first, second, third, fourth, _ = RUN_STANDINGS
        step, wash = ((0, "step", 0),), ((0, "wash", 0),)
        self.assertEqual(due_plan(RUN_TASK, first, (4,)), (
            (first, (4,), step), (second, (3,), ()), (third, (2,), wash), (third, (3,), wash), (fourth, (1,), step),
            (fourth, (2,), step)))
        self.assertIsNone(due_table(RUN_TASK, first, (4,)))
        self.assertEqual(due_plan(RUN_TASK, first, (5,))[0], (first, (4,), step))
        self.assertEqual(due_table(RUN_TASK, third, (1,)), ((third, (1,), ((), ((0, 0),))),))
        self.assertEqual(due_table(RUN_TASK, third, (1,))[0][2], ((), ((0, 0),)))
        broken = (((1, 2),), ((1, ()),))
        self.assertEqual(due_table(RUN_TASK, broken, (60,)), ())
        self.assertIsNone(due_plan(RUN_TASK, broken, (60,)))
        # Nothing is asked: the claim is kept at once, wherever it stands.
        for standing in (first, broken, (((2, 0),), ((1, ()),)), (((0, 0),), ((0, ("out",)),))):
            self.assertEqual(due_plan(RUN_TASK, standing, (-1,)), ())
            self.assertIsNone(due_table(RUN_TASK, standing, (-1,)))
        self.assertEqual(due_plan(EMPTY_TASK, start(EMPTY_TASK), ()), ())
        self.assertIsNone(due_table(EMPTY_TASK, start(EMPTY_TASK), ()))

    def test_dues_of_60(self):
        out = (((0, 0),), ((0, ("out",)),))
        table = due_table(RUN_TASK, out, (60,))
        self.assertEqual(table, tuple((out, (due,), ((),)) for due in range(1, 61)))
        self.assertIsNone(due_plan(STUCK_TASK, start(STUCK_TASK), (60,)))


if __name__ == "__main__":
    unittest.main()
