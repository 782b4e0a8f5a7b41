"""[310]: RUNS by their numbers."""

import random
import unittest
from unittest import mock

from tests.examples import (
    DOC_LAB, EMPTY_TASK, NEVER_RIGHT, NO_TUPLES, RUN, RUN_STANDINGS, RUN_TASK, SMALL_TASKS, WRONG_STANDINGS,
    literal_broken, literal_moves, literal_ticks, random_run, refused, some_standings, wash_task)
from washedarms import runcounts
from washedarms.errors import BadNumber, BadRun, BadStanding, BadTask, BadTicks, TooGreat
from washedarms.forms import start
from washedarms.runcounts import number_of_run, run_at, run_count


def rows_at(task, standing):
    """All rows that can be played at a STANDING, in order, and the STANDINGS behind."""
    if literal_broken(task, standing):
        return []
    return [((move, late), behind) for move in literal_moves(task, standing)
            for late, behind in literal_ticks(task, standing, move)]


def listed_runs(task, standing, ticks, most):
    """All RUNS of so many rows, ascending, and the number of pairs of ticks and STANDINGS; None of too many."""
    layer, pairs = [((), standing)], 1
    for _ in range(ticks):
        layer = [(run + (row,), behind) for run, one in layer for row, behind in rows_at(task, one)]
        pairs += len({behind for _, behind in layer})
        if len(layer) > most:
            return None, None
    runs = [run for run, _ in layer]
    return sorted(runs), pairs


class ListedTest(unittest.TestCase):
    def test_beside_all_runs(self):
        counts = set()
        for task in SMALL_TASKS:
            for standing in some_standings(task, 2):
                for ticks in range(4):
                    runs, pairs = listed_runs(task, standing, ticks, 600)
                    if runs is None:
                        break
                    self.assertEqual(run_count(task, standing, ticks), len(runs))
                    counts.add(len(runs))
                    for number in sorted({0, 1, len(runs) // 2, len(runs) - 1}):
                        if 0 <= number < len(runs):
                            self.assertEqual(run_at(task, standing, ticks, number), runs[number])
                            self.assertEqual(number_of_run(task, standing, runs[number]), number)
                    for wrong in (-1, len(runs)):
                        refused(self, BadNumber, {"value": wrong}, run_at, task, standing, ticks, wrong)
        self.assertLessEqual({0, 1, 2, 3, 4}, counts)

    def test_all_numbers(self):
        for ticks in range(6):
            runs, _ = listed_runs(RUN_TASK, start(RUN_TASK), ticks, 10 ** 6)
            told = [run_at(RUN_TASK, start(RUN_TASK), ticks, number) for number in range(len(runs))]
            self.assertEqual(told, runs)
            self.assertEqual([number_of_run(RUN_TASK, start(RUN_TASK), run) for run in runs], list(range(len(runs))))

    def test_there_and_back(self):
        rng = random.Random(330)
        for task in SMALL_TASKS:
            run, _ = random_run(rng, task, start(task), 20)
            number = number_of_run(task, start(task), run)
            self.assertEqual(run_at(task, start(task), len(run), number), run)
            many = run_count(task, start(task), 12)
            number = rng.randrange(many)
            self.assertEqual(number_of_run(task, start(task), run_at(task, start(task), 12, number)), number)

    def test_by_hand(self):
        first = start(RUN_TASK)
        self.assertEqual([run_count(RUN_TASK, first, ticks) for ticks in range(4)], [1, 4, 11, 29])
        self.assertEqual(run_at(RUN_TASK, first, 1, 0), (((), ()),))
        self.assertEqual(run_at(RUN_TASK, first, 1, 3), ((((0, "wash", 0),), ((0, 0),)),))
        self.assertEqual(run_at(RUN_TASK, first, 4, number_of_run(RUN_TASK, first, RUN)), RUN)
        self.assertEqual(number_of_run(RUN_TASK, first, RUN[:1]), 1)
        # Ticks go on from done ones; nothing follows a broken one.
        self.assertEqual(run_count(RUN_TASK, RUN_STANDINGS[4], 60), 2 ** 60)
        self.assertEqual(run_at(RUN_TASK, RUN_STANDINGS[4], 60, 0), (((), ()),) * 60)
        self.assertEqual(run_count(EMPTY_TASK, start(EMPTY_TASK), 60), 1)
        broken = (((1, 2),), ((1, ()),))
        self.assertEqual([run_count(RUN_TASK, broken, ticks) for ticks in (0, 1, 2, 60)], [1, 0, 0, 0])
        self.assertEqual(number_of_run(RUN_TASK, broken, ()), 0)
        self.assertEqual(run_at(RUN_TASK, broken, 0, 0), ())
        refused(self, BadNumber, {"value": 0}, run_at, RUN_TASK, broken, 1, 0)
        # The RUN is not to be looked at any further when its row leads to what is broken.
        waits = (((1, 1),), ((1, ()),))
        self.assertEqual(run_count(RUN_TASK, waits, 1), 2)
        self.assertEqual(run_count(RUN_TASK, waits, 2), 0)

    def test_great_numbers(self):
        task = wash_task(3, (1, 1, 1), (3, 3, 3))
        many = run_count(task, start(task), 60)
        self.assertGreater(many, 10 ** 100)
        for number in (0, many // 3, many - 1):
            run = run_at(task, start(task), 60, number)
            self.assertEqual(len(run), 60)
            self.assertEqual(number_of_run(task, start(task), run), number)
        refused(self, BadNumber, {"value": many}, run_at, task, start(task), 60, many)


class ErrorsTest(unittest.TestCase):
    def test_arguments_in_their_order(self):
        for call, more in ((run_count, ("x",)), (run_at, ("x", "y")), (number_of_run, ("x",))):
            refused(self, BadTask, {"word": "samples", "place": (1,)}, call, (DOC_LAB, 0), "x", *more)
            for wrong in WRONG_STANDINGS:
                with self.assertRaises(BadStanding):
                    call(RUN_TASK, wrong, *more)
        broken = (((1, 2),), ((1, ()),))
        for standing in (start(RUN_TASK), broken):
            for wrong in NEVER_RIGHT + NO_TUPLES[:1] + (-1, 61, ()):
                refused(self, BadTicks, {"value": wrong}, run_count, RUN_TASK, standing, wrong)
                refused(self, BadTicks, {"value": wrong}, run_at, RUN_TASK, standing, wrong, "x")
        for wrong in NEVER_RIGHT + NO_TUPLES[:1] + (-1, 4, ()):
            refused(self, BadNumber, {"value": wrong}, run_at, RUN_TASK, start(RUN_TASK), 1, wrong)

    def test_runs(self):
        first = start(RUN_TASK)
        for wrong in NO_TUPLES + (list(RUN),):
            refused(self, BadRun, {"index": None, "why": "form"}, number_of_run, RUN_TASK, first, wrong)
        for index, row, why in ((1, (), "form"), (0, [(), ()], "form"), (3, (((1, "step", 0),), ()), "move"),
                                (2, (((0, "wash", 0),), ()), "lateness"), (1, ((), ((0, True),)), "lateness")):
            refused(self, BadRun, {"index": index, "why": why}, number_of_run, RUN_TASK, first,
                    RUN[:index] + (row,) + RUN[index + 1:])
        waits = (((), ()),) * 2
        refused(self, BadRun, {"index": 4, "why": "broken"}, number_of_run, RUN_TASK, first, RUN[:2] + waits * 2)
        # BadRun comes ahead of too many rows.
        refused(self, BadTicks, {"value": 61}, number_of_run, RUN_TASK, first, (((), ()),) * 61)
        refused(self, BadRun, {"index": 61, "why": "form"}, number_of_run, RUN_TASK, first, (((), ()),) * 61 + (0,))
        self.assertEqual(number_of_run(RUN_TASK, first, (((), ()),) * 60), 0)

    def test_just_so_many_pairs(self):
        for task in SMALL_TASKS[:12]:
            for ticks in range(4):
                runs, pairs = listed_runs(task, start(task), ticks, 10 ** 4)
                if runs is None:
                    break
                calls = ((run_count, (ticks,)), (run_at, (ticks, 0)), (number_of_run, (runs[0],)))
                for call, more in calls:
                    with mock.patch.object(runcounts, "MOST_NODES", pairs):
                        call(task, start(task), *more)
                    if ticks > 0:
                        with mock.patch.object(runcounts, "MOST_NODES", pairs - 1):
                            refused(self, TooGreat, {"most": pairs - 1}, call, task, start(task), *more)
        self.assertEqual(runcounts.MOST_NODES, 20000)

    def test_too_many_pairs(self):
        task = wash_task(8, (6, 1, 1), tools=2, high=2)
        refused(self, TooGreat, {"most": 20000}, run_count, task, start(task), 30)
        # Ahead of BadNumber.
        refused(self, TooGreat, {"most": 20000}, run_at, task, start(task), 60, "x")
        refused(self, BadNumber, {"value": "x"}, run_at, task, start(task), 3, "x")
        refused(self, TooGreat, {"most": 20000}, number_of_run, task, start(task), (((), ()),) * 60)


if __name__ == "__main__":
    unittest.main()
