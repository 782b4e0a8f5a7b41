"""[613]: OPEN TASKS and LIST RUNS."""

import random
import unittest
from itertools import permutations

from tests.examples import (
    DOC_LAB, EMPTY_TASK, NEVER_RIGHT, NO_TUPLES, RUN_TASK, TWO_LAB, TWO_TASK, at, changed, places, random_tasks,
    refused)
from washedarms.errors import BadList, BadTask, BadTicks, NotOpen
from washedarms.forms import start
from washedarms.lists import is_open, list_run
from washedarms.ranks import soonest


def open_task(rng, tools, arms, samples, high=3):
    """Some OPEN TASK."""
    lab = (((0, 1), (1, 0)), (), tools, arms, 0)
    rows = []
    for _ in range(samples):
        steps = []
        for _ in range(rng.randint(0, 3)):
            low = rng.randint(1, high)
            steps.append((rng.randrange(2), tuple(range(tools)), (), low, rng.randint(low, high)))
        rows.append((tuple(steps), (None,) * len(steps)))
    return (lab, tuple(rows))


def literal_run(task, order, ticks):
    """The LIST RUN, tick by tick, by the words of [613]."""
    begins = {sample: [] for sample in order}

    def running(sample, tick):
        return any(begin <= tick < begin + ticks[sample][step] for step, begin in enumerate(begins[sample]))

    tick = end = 0
    while any(len(begins[sample]) < len(task[1][sample][0]) for sample in order):
        for sample in order:
            busy = len([other for other in order if running(other, tick)])
            if not running(sample, tick) and len(begins[sample]) < len(ticks[sample]):
                if busy < task[0][2] and busy < task[0][3]:
                    begins[sample].append(tick)
                    end = max(end, tick + ticks[sample][len(begins[sample]) - 1])
        tick += 1
    return end, tuple(tuple(begins[sample]) for sample in sorted(order))


class OpenTest(unittest.TestCase):
    def test_by_hand(self):
        step = (0, (0, 1), (), 1, 2)
        lab = (((0,),), (), 2, 2, 1)
        for task, right in ((EMPTY_TASK, True), ((lab, ()), True), ((lab, (((step, step), (None, None)),)), True),
                            ((lab, (((step, step), (None, 0)),)), False), ((lab, (((step, step), (None, 6)),)), False),
                            ((lab, (((step[:1] + ((0,),) + step[2:],), (None,)),)), False),
                            ((lab, (((step[:1] + ((1,),) + step[2:],), (None,)),)), False),
                            ((lab, (((step[:2] + ((0,),) + step[3:],), (None,)),)), False),
                            (((((0,), (None,)),) + lab[1:], ()), False), (((((0,), (0,)),) + lab[1:], ()), True),
                            ((lab, (((), ()), ((step,), (None,)), ((step[:1] + ((0,),) + step[2:],), (None,)))), False),
                            (RUN_TASK, False), (TWO_TASK, False), ((TWO_LAB, ()), True)):
            self.assertIs(is_open(task), right)
            if not right:
                refused(self, NotOpen, {}, list_run, task, "x", "y")

    def test_some_tasks(self):
        found = set()
        for task in random_tasks(570, 200, states=1, zones=1):
            lab, samples = task
            steps = [step for row, _ in samples for step in row]
            right = all(step[1] == tuple(range(lab[2])) and not step[2] for step in steps) and all(
                window is None for _, windows in samples for window in windows)
            self.assertIs(is_open(task), right)
            found.add(right)
        self.assertEqual(found, {True, False})


class ListTest(unittest.TestCase):
    def test_by_the_words(self):
        rng = random.Random(571)
        for _ in range(150):
            task = open_task(rng, rng.randint(1, 3), rng.randint(1, 3), rng.randint(0, 4), 6)
            order = list(range(len(task[1])))
            rng.shuffle(order)
            ticks = tuple(tuple(rng.randint(step[3], step[4]) for step in steps) for steps, _ in task[1])
            self.assertEqual(list_run(task, tuple(order), ticks), literal_run(task, order, ticks))

    def test_by_hand(self):
        step = (0, (0, 1), (), 1, 6)
        lab = (((0,),), (), 2, 2, 0)
        task = (lab, (((step,), (None,)), ((step, step), (None, None)), ((), ()), ((step,), (None,))))
        ticks = ((3,), (1, 2), (), (4,))
        self.assertEqual(list_run(task, (0, 1, 2, 3), ticks), (7, ((0,), (0, 1), (), (3,))))
        self.assertEqual(list_run(task, (3, 0, 1, 2), ticks), (6, ((0,), (3, 4), (), (0,))))
        self.assertEqual(list_run(task, (1, 2, 3, 0), ticks), (6, ((3,), (0, 1), (), (0,))))
        one_arm = (lab[:3] + (1, 0), task[1])
        self.assertEqual(list_run(one_arm, (1, 2, 3, 0), ticks), (10, ((7,), (0, 1), (), (3,))))
        self.assertEqual(list_run(EMPTY_TASK, (), ()), (0, ()))
        self.assertEqual(list_run((lab, (((), ()),)), (0,), ((),)), (0, ((),)))

    def test_beside_the_soonest_end(self):
        """[613]: M times END is at most 2 * M - 1 times SOONEST of the START."""
        rng = random.Random(572)
        ratios = set()
        for _ in range(14):
            task = open_task(rng, 2, rng.randint(1, 2), 3, 2)
            task = (task[0], tuple((steps[:2], windows[:2]) for steps, windows in task[1]))
            ticks = soonest(task, start(task))
            most = min(task[0][2], task[0][3])
            for order in permutations(range(3)):
                for pick in (3, 4):
                    end, _ = list_run(task, order, tuple(tuple(step[pick] for step in steps) for steps, _ in task[1]))
                    self.assertLessEqual(most * end, (2 * most - 1) * ticks)
                ratios.add(end == ticks)
        self.assertEqual(ratios, {True, False})

    def test_errors(self):
        step = (0, (0, 1), (), 1, 6)
        task = ((((0,),), (), 2, 2, 0), (((step,), (None,)), ((step, step[:3] + (2, 3)), (None, None)), ((), ())))
        ticks = ((6,), (1, 2), ())
        list_run(task, (2, 0, 1), ticks)
        refused(self, BadTask, {"word": "samples", "place": (1,)}, list_run, (DOC_LAB, 0), "x", "y")
        refused(self, BadTask, {"word": "samples", "place": (1,)}, is_open, (DOC_LAB, 0))
        for wrong in NO_TUPLES + ((), (0, 1), (0, 1, 2, 2), (0, 1, 1), (0, 1, 3), [0, 1, 2], (1, 2, 3), (True, 0, 2),
                                  (False, 1, 2), (0, 1, None), (0, 1, -1), (0, 1, "2")):
            refused(self, BadList, {"value": wrong}, list_run, task, wrong, "y")
        for wrong in NO_TUPLES + ((), ticks[:2], ticks + ((),), list(ticks), ((6,), (1, 2), []), ((6,), (1,), ()),
                                  ((6,), (1, 2, 2), ()), ((7,), (1, 2), ()), ((0,), (1, 2), ()), ((6,), (1, 1), ()),
                                  ((6,), (1, 4), ()), ((6,), (True, 2), ()), ((6,), (1, 2), (1,))):
            refused(self, BadTicks, {"value": wrong}, list_run, task, (2, 0, 1), wrong)
        for place in places(ticks)[1:]:
            for bad in NEVER_RIGHT + (None,):
                wrong = changed(ticks, place, bad)
                refused(self, BadTicks, {"value": wrong}, list_run, task, (2, 0, 1), wrong)
        self.assertEqual(at(ticks, (1, 1)), 2)


if __name__ == "__main__":
    unittest.main()
