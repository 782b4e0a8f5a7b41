"""[20], [63], [64]: the LIVE PLAN told, and the worst course."""

import unittest

from tests.examples import (
    EMPTY_TASK, LUCK_TASK, PAPER_TASK, RUN, RUN_STANDINGS, RUN_TASK, SMALL_TASKS, STUCK_TASK, literal_broken,
    literal_done, literal_in_time, literal_ranks, literal_rows, some_standings)
from washedarms.forms import start
from washedarms.lateness import lateness_table
from washedarms.plans import live_plan, worst_course
from washedarms.runs import played


def literal_best(task, ranks, standing):
    """The first best MOVE at a live STANDING with a RANK, and its ENDS."""
    for move, ends in literal_rows(task, standing):
        behind = [ranks[one] for _, one in ends]
        if None not in behind and 1 + max(behind) == ranks[standing]:
            return move, ends


def literal_plan(task, standing):
    """The PLAN told, by [64]."""
    ranks = literal_ranks(task, standing)
    if ranks[standing] is None:
        return None
    rows, ahead = {}, [standing]
    for one in ahead:
        if ranks[one] and one not in rows:
            rows[one], ends = literal_best(task, ranks, one)
            ahead += [behind for _, behind in ends]
    return tuple((one, rows[one], ranks[one]) for one in sorted(rows))


def literal_is_plan(task, standing, ticks, paper):
    """Whether right rows are a LIVE PLAN, by the words of [20]."""
    told = {one: rank for one, _, rank in paper}
    if [one for one, _, _ in paper] != sorted(told):
        return False
    for one, move, rank in paper:
        if literal_done(task, one) or literal_broken(task, one) or rank < 1:
            return False
        for _, behind in dict(literal_rows(task, one))[move]:
            if not literal_done(task, behind) and told.get(behind, rank) >= rank:
                return False
    return literal_done(task, standing) or told.get(standing, ticks + 1) <= ticks


class PlanTest(unittest.TestCase):
    def test_the_told_one(self):
        for task in SMALL_TASKS:
            for standing in some_standings(task, 5):
                plan = live_plan(task, standing)
                self.assertEqual(plan, literal_plan(task, standing))
                rank = literal_ranks(task, standing)[standing]
                if rank is not None:
                    for ticks in range(rank + 2):
                        self.assertEqual(literal_is_plan(task, standing, ticks, plan), ticks >= rank)

    def test_just_one_of_both(self):
        """[22], [63]: for each T a plan or a table, and never both."""
        for task in SMALL_TASKS:
            for standing in some_standings(task, 3):
                plan = live_plan(task, standing)
                for ticks in range(9):
                    is_plan = plan is not None and literal_is_plan(task, standing, ticks, plan)
                    self.assertEqual(is_plan, lateness_table(task, standing, ticks) is None)
                    self.assertEqual(is_plan, literal_in_time(task, standing, ticks))
                self.assertEqual(lateness_table(task, standing, None) is None, plan is not None)

    def test_by_hand(self):
        first, second, third, fourth, done = RUN_STANDINGS
        step, wash = ((0, "step", 0),), ((0, "wash", 0),)
        self.assertEqual(live_plan(RUN_TASK, first), (
            (first, step, 4), (second, (), 3), (third, wash, 2), (fourth, step, 1)))
        self.assertEqual(live_plan(RUN_TASK, third), ((third, wash, 2), (fourth, step, 1)))
        running = (((0, 0),), ((0, ("step", 0, 1)),))
        self.assertEqual(live_plan(PAPER_TASK, start(PAPER_TASK)), (
            (start(PAPER_TASK), step, 2), (running, (), 1)))

    def test_without_rows(self):
        for task, standing in ((EMPTY_TASK, start(EMPTY_TASK)), (RUN_TASK, RUN_STANDINGS[4])):
            self.assertEqual(live_plan(task, standing), ())
            self.assertEqual(worst_course(task, standing), ())
        for task, standing in ((STUCK_TASK, start(STUCK_TASK)), (LUCK_TASK, start(LUCK_TASK)),
                               (RUN_TASK, (((1, 2),), ((0, ()),))), (RUN_TASK, (((0, 0),), ((0, ("out",)),)))):
            self.assertIsNone(live_plan(task, standing))
            self.assertIsNone(worst_course(task, standing))


class WorstCourseTest(unittest.TestCase):
    def test_by_the_words(self):
        for task in SMALL_TASKS:
            for standing in some_standings(task, 5):
                ranks = literal_ranks(task, standing)
                course = worst_course(task, standing)
                if ranks[standing] is None:
                    self.assertIsNone(course)
                    continue
                self.assertEqual(len(course), ranks[standing])
                one, right = standing, []
                while ranks[one]:
                    move, ends = literal_best(task, ranks, one)
                    late, behind = [end for end in ends if ranks[end[1]] == ranks[one] - 1][0]
                    right.append((move, late))
                    one = behind
                self.assertEqual(course, tuple(right))
                self.assertEqual(played(task, standing, course)[-1], one)

    def test_by_hand(self):
        self.assertEqual(worst_course(RUN_TASK, start(RUN_TASK)), RUN)


if __name__ == "__main__":
    unittest.main()
