"""[304]: RUNS."""

import random
import unittest

from tests.examples import (
    EMPTY_TASK, GREAT_TASK, NO_TUPLES, RUN, RUN_LAB, RUN_STANDINGS, RUN_TASK, literal_standings, random_run,
    random_tasks)
from washedarms.errors import BadRun, BadStanding, BadTask
from washedarms.forms import start
from washedarms.runs import played


class RunsTest(unittest.TestCase):
    def check_bad(self, run, index, why, standing=RUN_STANDINGS[0], task=RUN_TASK):
        with self.assertRaises(BadRun) as caught:
            played(task, standing, run)
        self.assertEqual((caught.exception.index, caught.exception.why), (index, why))

    def test_by_hand(self):
        for rows in range(5):
            self.assertEqual(played(RUN_TASK, RUN_STANDINGS[0], RUN[:rows]), RUN_STANDINGS[:rows + 1])
            self.assertEqual(played(RUN_TASK, RUN_STANDINGS[rows], RUN[rows:]), RUN_STANDINGS[rows:])
        self.assertEqual(played(EMPTY_TASK, start(EMPTY_TASK), (((), ()),) * 500), (start(EMPTY_TASK),) * 501)

    def test_some_runs(self):
        rng = random.Random(49)
        for task in random_tasks(50, 25, samples=2, tools=2):
            for _ in range(4):
                run, found = random_run(rng, task, start(task), 8)
                self.assertEqual(played(task, start(task), run), found)
        for task in random_tasks(51, 5, samples=1, states=2, tools=2):
            for standing in literal_standings(task)[::50]:
                run, found = random_run(rng, task, standing, 4)
                self.assertEqual(played(task, standing, run), found)

    def test_no_tuple(self):
        for wrong in NO_TUPLES + (list(RUN),):
            self.check_bad(wrong, None, "form")

    def test_words(self):
        for index in range(4):
            for wrong in NO_TUPLES + ((), RUN[0][:1], RUN[0] + ((),), list(RUN[index])):
                self.check_bad(RUN[:index] + (wrong,) + RUN[index + 1:], index, "form")
            for wrong in NO_TUPLES + (((0, "wash", 1),), ((0, "step", False),), ((1, "wash", 0),)):
                self.check_bad(RUN[:index] + ((wrong, RUN[index][1]),), index, "move")
                self.check_bad(RUN[:index] + ((wrong, "x"),), index, "move")
            for wrong in NO_TUPLES + (((0, 2),), ((1, 0),), ((0, True),), ((0, 1), (0, 1))):
                self.check_bad(RUN[:index] + ((RUN[index][0], wrong),), index, "lateness")
        self.check_bad(RUN[:1] + RUN, 1, "move")
        self.check_bad(RUN[:2] + RUN[3:], 2, "move")
        self.check_bad(RUN[:2] + (RUN[2], RUN[2][:1] + ((),)), 3, "lateness")

    def test_broken(self):
        wait = ((), ())
        broken = (((1, 2),), ((1, ()),))
        self.assertEqual(played(RUN_TASK, RUN_STANDINGS[0], RUN[:2] + (wait, wait))[-1], broken)
        for row in (wait, ("x", "y"), (((0, "wash", 0),), ())):
            self.check_bad(RUN[:2] + (wait, wait, row), 4, "broken")
            self.check_bad((row,), 0, "broken", broken)
        for row in ((), (wait,), None):
            self.check_bad((row,), 0, "form", broken)
        self.assertEqual(played(RUN_TASK, broken, ()), (broken,))

    def test_the_first_row_is_told(self):
        self.check_bad((RUN[0], ((), "x"), "y"), 1, "lateness")

    def test_errors_in_their_order(self):
        with self.assertRaises(BadTask):
            played((RUN_LAB, 0), "x", "y")
        for wrong in NO_TUPLES + ((),):
            with self.assertRaises(BadStanding):
                played(GREAT_TASK, wrong, "y")


if __name__ == "__main__":
    unittest.main()
