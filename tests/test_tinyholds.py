"""[152]: STATEMENTS of TASKS."""

import unittest
from unittest import mock

from tests.examples import (
    DOC_LAB, EMPTY_TASK, EVEN_TASKS, HUGE_TASK, LUCK_TASK, MANY_STANDINGS, MANY_TRIPLES, NO_TUPLES, RUN_TASK,
    SMALL_TASKS, STUCK_TASK, TASK, THREE_TASK, WINDOW_TASK, X_TASKS, changed, literal_soonest, refused, small_tasks)
from washedarms import tinyholds
from washedarms.errors import BadTask, TooGreat
from washedarms.tinyholds import statement_faults
from washedarms.tinytasks import tiny_count, tiny_task


def changed_tasks(task):
    """For the STATEMENTS 2 to 6 the changed TASKS, by the words of [152]."""
    found = {number: [] for number in range(2, 7)}
    jobs = [(0, 1, wash) for wash in range(len(task[0][1]))]
    jobs += [(1, sample, 0, step) for sample, (steps, _) in enumerate(task[1]) for step in range(len(steps))]
    slow = spare = task
    for place in jobs:
        job = task
        for index in place:
            job = job[index]
        slow = changed(slow, place, job[:-2] + (job[-1],) * 2)
        if job[-1] < 6:
            found[2].append(changed(task, place, job[:-1] + (job[-1] + 1,)))
        if len(job) == 5 and 0 in job[1]:
            spare = changed(spare, place, (job[0], job[1] + (task[0][2],)) + job[2:])
    for sample, (steps, windows) in enumerate(task[1]):
        for step in range(1, len(steps)):
            window = windows[step]
            if window != 0:
                found[3].append(changed(task, (1, sample, 1, step), 6 if window is None else window - 1))
    if task[0][3] < 3:
        found[4].append(changed(task, (0, 3), task[0][3] + 1))
    if task[0][2] < 3:
        found[5].append(changed(spare, (0, 2), task[0][2] + 1))
    found[6].append(slow)
    return found


# A wash and a step that can't take longer, and others that can.
LONG_TASK = (((((1,), (None,))), ((((0,), (0,)), 1, 6), (((0,), (1,)), 5, 5)), 1, 1, 0), (
    (((0, (0,), (), 4, 6), (0, (0,), (), 6, 6)), (None, 6)), (((0, (0,), (), 1, 5),), (None,))))
TASKS = (LONG_TASK, changed(THREE_TASK, (0, 3), 3), changed(THREE_TASK, (0, 3), 1))
TASKS += SMALL_TASKS + EVEN_TASKS + X_TASKS + small_tasks(960, 4, 60, samples=1, steps=2, tools=3)


class HoldTest(unittest.TestCase):
    def test_all_hold(self):
        for task in TASKS:
            self.assertEqual(statement_faults(task), ())
        shape = (2, 2, 2, 2, 1, (2, 1), 2, 1)
        for number in range(0, tiny_count(shape), tiny_count(shape) // 40):
            self.assertEqual(statement_faults(tiny_task(shape, number)), ())

    def test_the_words_hold(self):
        """The STATEMENTS themselves, by SOONEST as [61] tells it."""
        for task in SMALL_TASKS[:14]:
            first = literal_soonest(task)
            first = 10 ** 9 if first is None else first
            for number, tasks in changed_tasks(task).items():
                for other in tasks:
                    soon = literal_soonest(other)
                    soon = 10 ** 9 if soon is None else soon
                    self.assertTrue(soon >= first if number < 4 else soon <= first)

    def test_the_changes_that_are_looked_at(self):
        """Each changed TASK is looked at: if it alone were sooner, or later, this would be told, and nothing else."""
        for task in TASKS[::3] + (RUN_TASK, WINDOW_TASK, STUCK_TASK, TASK):
            tasks = changed_tasks(task)
            for number in tasks:
                for other in tasks[number]:
                    if other == task:
                        continue
                    odd = [one for one in tasks if other in tasks[one]]
                    for first, soon in ((5, 4), (5, 6), (5, None), (None, 5)):
                        with self.told({task: first, other: soon}, first, True):
                            sooner = soon is not None and (first is None or soon < first)
                            wrong = [one for one in odd if sooner == (one < 4)]
                            self.assertEqual(statement_faults(task), tuple(wrong))

    def told(self, ticks, other, right):
        """SOONEST of some TASKS, and of all others, told instead of searched for."""
        return mock.patch.multiple(
            tinyholds, start_soonest=lambda task: ticks.get(task, other), has_papers=lambda task, first: right)

    def test_the_papers(self):
        for task, ticks, first in ((RUN_TASK, 4, True), (STUCK_TASK, None, True), (EMPTY_TASK, 0, True)):
            self.assertEqual(statement_faults(task), ())
            for name, value in (("live_plan", ()), ("lateness_table", ()), ("is_live_plan", False),
                                ("is_lateness_table", False)):
                used = {"live_plan": True, "lateness_table": ticks != 0, "is_live_plan": ticks is not None,
                        "is_lateness_table": ticks != 0}[name]
                if (name, ticks) == ("live_plan", 0):
                    continue
                with mock.patch.object(tinyholds, name, lambda *args, value=value: value):
                    self.assertEqual(statement_faults(task), (1,) if used else ())
        asked = []
        with mock.patch.object(tinyholds, "is_lateness_table", lambda *args: asked.append(args[2]) or True):
            statement_faults(RUN_TASK)
            statement_faults(STUCK_TASK)
            statement_faults(EMPTY_TASK)
        self.assertEqual(asked, [3, None])

    def test_errors(self):
        for wrong in NO_TUPLES:
            refused(self, BadTask, {"word": "task", "place": ()}, statement_faults, wrong)
        refused(self, BadTask, {"word": "samples", "place": (1,)}, statement_faults, (DOC_LAB, 0))
        refused(self, TooGreat, {"most": 20000}, statement_faults, MANY_STANDINGS[1])
        refused(self, TooGreat, {"most": 200000}, statement_faults, MANY_TRIPLES[1])
        refused(self, TooGreat, {"most": 20000}, statement_faults, HUGE_TASK)
        self.assertEqual(statement_faults(LUCK_TASK), ())


if __name__ == "__main__":
    unittest.main()
