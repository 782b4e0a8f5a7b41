"""[301], [302]: done, broken and live STANDINGS, windows, and what is in use."""

import unittest

from tests.examples import (
    DOC_LAB, EMPTY_TASK, GREAT_TASK, NEVER_RIGHT, NO_TUPLES, RUN_TASK, TASK, at, changed, literal_broken,
    literal_done, literal_standings, random_tasks)
from washedarms.errors import BadNumber, BadStanding, BadTask
from washedarms.forms import start
from washedarms.standings import in_use, is_broken, is_done, is_live, window_of

TASKS = [EMPTY_TASK, RUN_TASK] + random_tasks(
    43, 10, states=1, stuffs=1, samples=2, steps=2, tools=2, arms=2, zones=2, washes=0) + random_tasks(
    44, 6, states=2, samples=1, steps=2, tools=2)
IDLE = ((0, ()), (0, ()))


class StandingsTest(unittest.TestCase):
    def test_by_the_words(self):
        seen = set()
        for task in TASKS:
            for standing in literal_standings(task)[::5]:
                done, broken = literal_done(task, standing), literal_broken(task, standing)
                self.assertIs(is_done(task, standing), done)
                self.assertIs(is_broken(task, standing), broken)
                self.assertIs(is_live(task, standing), not done and not broken)
                self.assertFalse(done and broken)
                running = [job for _, job in standing[1] if len(job) == 3]
                on = sorted(job[1] for job in running if job[0] == "step")
                zones = sorted(zone for one in on for zone in task[1][one][0][standing[0][one][0]][2])
                self.assertEqual(in_use(task, standing), (len(running), tuple(on), tuple(zones)))
                self.assertLessEqual(len(running), task[0][3])
                self.assertEqual(len(set(zones)), len(zones))
                for sample, (steps, windows) in enumerate(task[1]):
                    at = standing[0][sample][0]
                    told = windows[at] if sample not in on and 1 <= at < len(steps) else None
                    self.assertEqual(window_of(task, standing, sample), told)
                seen |= {("done", done, broken), ("use", len(on), len(zones))}
        self.assertLessEqual({("done", True, False), ("done", False, True), ("done", False, False)}, seen)
        self.assertLessEqual({("use", 2, 1), ("use", 1, 1), ("use", 1, 0), ("use", 0, 0)}, seen)

    def test_by_hand(self):
        self.assertIs(is_done(EMPTY_TASK, start(EMPTY_TASK)), True)
        self.assertIs(is_live(EMPTY_TASK, start(EMPTY_TASK)), False)
        for rests, done, broken in (
                (((0, 0), (0, 0), (0, 0)), False, False), (((2, 0), (0, 0), (3, 0)), True, False),
                (((1, 1), (0, 0), (0, 0)), False, False), (((1, 2), (0, 0), (0, 0)), False, True),
                (((2, 0), (0, 0), (2, 0)), False, False), (((2, 0), (0, 0), (2, 1)), False, True),
                (((1, 1), (0, 0), (2, 1)), False, True)):
            standing = (rests, IDLE)
            self.assertIs(is_done(TASK, standing), done)
            self.assertIs(is_broken(TASK, standing), broken)
            self.assertIs(is_live(TASK, standing), not done and not broken)
        # A wash that runs, or a tool that is out of use, doesn't matter.
        standing = (((2, 0), (0, 0), (3, 0)), ((1, ("wash", 0, 1)), (0, ("out",))))
        self.assertIs(is_done(TASK, standing), True)
        self.assertEqual(in_use(TASK, standing), (1, (), ()))

    def test_windows(self):
        for rests, windows in ((((0, 0), (0, 0), (0, 0)), (None, None, None)), (((1, 0), (0, 0), (1, 0)), (1, None,
                None)),
                               (((1, 2), (0, 0), (2, 1)), (1, None, 0)), (((2, 0), (0, 0), (3, 0)), (None, None,
                                       None))):
            for sample in range(3):
                self.assertEqual(window_of(TASK, (rests, IDLE), sample), windows[sample])
        on = (((1, 0), (0, 0), (2, 0)), ((0, ("step", 2, 1)), (0, ())))
        self.assertEqual([window_of(TASK, on, sample) for sample in range(3)], [1, None, None])
        for sample in range(4):
            rests = changed(((0, 0),) * 4, (sample,), (1, 7))
            self.assertEqual(window_of(GREAT_TASK, (rests, ((0, ()),) * 3), sample), 6)

    def test_use(self):
        standing = (((1, 0), (0, 0), (0, 0)), ((0, ()), (0, ("step", 0, 1))))
        self.assertEqual(in_use(TASK, standing), (1, (0,), (0, 1)))
        self.assertEqual(in_use(TASK, (((0, 0), (0, 0), (2, 0)), ((0, ("step", 2, 1)), (1, ("wash", 0, 1))))), (2,
                (2,), (0,)))
        self.assertEqual(in_use(TASK, start(TASK)), (0, (), ()))
        task = (DOC_LAB, (((((0, (0, 1), (1,), 1, 2),)), (None,)), ((((0, (0, 1), (0,), 1, 2),)), (None,))))
        # Samples and zones ascend, whatever tools serve them.
        self.assertEqual(in_use(task, (((0, 0), (0, 0)), ((0, ("step", 1, 1)), (0, ("step", 0, 1))))), (2, (0, 1), (0,
                1)))

    def test_wrong_arguments(self):
        for call in (is_done, is_broken, is_live, in_use):
            with self.assertRaises(BadTask):
                call((DOC_LAB, 0), "x")
            for wrong in NO_TUPLES + ((), ((), ())):
                with self.assertRaises(BadStanding):
                    call(TASK, wrong)
        with self.assertRaises(BadTask):
            window_of((DOC_LAB, 0), "x", "y")
        with self.assertRaises(BadStanding):
            window_of(TASK, "x", "y")
        for wrong in NEVER_RIGHT + (-1, 3, None, (), (0,)):
            with self.assertRaises(BadNumber) as caught:
                window_of(TASK, start(TASK), wrong)
            self.assertIs(caught.exception.value, wrong)


if __name__ == "__main__":
    unittest.main()
