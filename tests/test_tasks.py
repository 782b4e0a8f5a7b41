"""[11], [12], [30]: what a TASK is."""

import unittest

from tests.examples import (
    DOC_LAB, EMPTY_TASK, GREAT_TASK, HUGE_TASK, LEAST_LAB, NEVER_RIGHT, NO_TUPLES, RUN_TASK, STEP, TASK, at,
    changed, places, random_tasks)
from washedarms.errors import BadTask
from washedarms.labs import lab_fault
from washedarms.tasks import is_task, need_task, next_step, task_fault

TASKS = [TASK, GREAT_TASK, EMPTY_TASK, HUGE_TASK, RUN_TASK] + random_tasks(2, 40)
LAB_WORDS = ("meets", "washes", "tools", "arms", "zones")


def word_at(place):
    """The word of a fault at a place of a TASK."""
    if place[0] == 1:
        return "samples"
    return LAB_WORDS[place[1]] if len(place) > 1 else "lab"


class TasksTest(unittest.TestCase):
    def check(self, value, fault):
        self.assertEqual(task_fault(value), fault, value)
        self.assertIs(is_task(value), fault is None)
        if fault is None:
            self.assertIs(need_task(value), value)
        else:
            with self.assertRaises(BadTask) as caught:
                need_task(value)
            self.assertEqual((caught.exception.word, caught.exception.place), fault)

    def check_samples(self, samples, place):
        self.check((DOC_LAB, samples), None if place is None else ("samples", (1,) + place))

    def test_right_ones(self):
        for task in TASKS:
            self.check(task, None)

    def test_no_pair(self):
        for value in NO_TUPLES + ((), (DOC_LAB,), (DOC_LAB, (), ()), [DOC_LAB, ()], DOC_LAB):
            self.check(value, ("task", ()))

    def test_faults_of_the_lab(self):
        for wrong in (None, (), DOC_LAB[:4], DOC_LAB[:4] + (5,), changed(DOC_LAB, (0, 1, 1), 3),
                      changed(DOC_LAB, (1, 0, 0, 1, 1), 0)):
            word, place = lab_fault(wrong)
            self.check((wrong, ()), (word, (0,) + place))
            self.check((wrong, "x"), (word, (0,) + place))

    def test_one_wrong_thing_anywhere(self):
        for task in (TASK, GREAT_TASK):
            for place in places(task)[1:]:
                for wrong in NEVER_RIGHT:
                    self.check(changed(task, place, wrong), (word_at(place), place))

    def test_lists_and_greater_lengths(self):
        for place in places(TASK)[1:]:
            value = at(TASK, place)
            if type(value) is tuple:
                self.check(changed(TASK, place, list(value)), (word_at(place), place))
                if value and place[0] == 1 and len(place) < 5:
                    self.check(changed(TASK, place, value * 5), (word_at(place), place))

    def test_the_first_of_two_wrong_things_is_told(self):
        found = [place for place in places(TASK)[1:] if place[0] == 1 or len(place) < 3]
        for one in found:
            for other in found:
                if one != other[:len(one)] and other != one[:len(other)]:
                    first = min(one, other)
                    value = changed(changed(TASK, one, False), other, "x")
                    self.check(value, (word_at(first), first))

    def test_samples(self):
        sample = ((STEP,), (None,))
        for many in range(0, 7):
            self.check_samples((sample,) * many, None if many <= 4 else ())
        self.check_samples(None, ())
        for wrong in ((), sample[:1], sample + (0,), None, list(sample)):
            self.check_samples((sample, wrong), (1,))

    def test_steps(self):
        for many in range(0, 7):
            self.check_samples((((STEP,) * many, (None,) * many),), None if many <= 4 else (0, 0))
        for wrong in ((), STEP[:4], STEP + (0,), None, list(STEP)):
            self.check_samples((((STEP, wrong), (None, None)),), (0, 0, 1))

    def test_parts_of_a_step(self):
        for stuff in range(-2, 5):
            self.check_step((stuff, (0,), (), 1, 1), None if 0 <= stuff <= 1 else (0,))
        for tools, place in (((), (1,)), ((0,), None), ((1,), None), ((0, 1), None), ((2,), (1, 0)), ((-1,), (1, 0)),
                             ((0, 0), (1, 1)), ((1, 0), (1, 1)), ((0, 1, 2), (1, 2)), ((0, 2, 1), (1, 1)),
                             ([0], (1,)), (None, (1,)), (0, (1,)), ((None,), (1, 0)), ((False,), (1, 0))):
            self.check_step((0, tools, (), 1, 1), place)
        for zones, place in (((), None), ((0,), None), ((1,), None), ((0, 1), None), ((2,), (2, 0)), ((-1,), (2, 0)),
                             ((1, 1), (2, 1)), ((1, 0), (2, 1)), ((0, 1, 2), (2, 2)), ([], (2,)), (None, (2,)),
                             (0, (2,)), ((None,), (2, 0)), ((0, True), (2, 1))):
            self.check_step((0, (0,), zones, 1, 1), place)
        for low in range(-1, 9):
            for high in range(-1, 9):
                place = None
                if not 1 <= low <= 6:
                    place = (3,)
                elif not low <= high <= 6:
                    place = (4,)
                self.check_step((0, (0,), (), low, high), place)
        self.check_step((2, (), None, 0, 0), (0,))
        self.check_step((1, (0, 0), None, 0, 0), (1, 1))
        self.check_step((1, (0,), None, 0, 0), (2,))

    def check_step(self, step, place):
        whole = None if place is None else (1, 0, 2) + place
        self.check_samples((((), ()), ((STEP, STEP, step), (None, None, 1))), whole)

    def test_no_zones(self):
        task = (LEAST_LAB, ((((0, (0,), (0,), 1, 1),), (None,)),))
        self.check(task, ("samples", (1, 0, 0, 0, 2, 0)))

    def test_windows(self):
        for many in range(0, 6):
            self.check_samples((((STEP,) * 3, (None,) * many),), None if many == 3 else (0, 1))
        for window in range(-2, 9):
            right = 0 <= window <= 6
            self.check_samples((((STEP,) * 3, (None, None, window)),), None if right else (0, 1, 2))
            self.check_samples((((STEP,) * 3, (None, window, None)),), None if right else (0, 1, 1))
            self.check_samples((((STEP,) * 3, (window, None, None)),), (0, 1, 0))
        self.check_samples((((STEP,) * 3, (None, -1, 7)),), (0, 1, 1))


class NextStepTest(unittest.TestCase):
    def test_each_number_of_done_steps(self):
        for task in (TASK, GREAT_TASK):
            for number, (steps, _) in enumerate(task[1]):
                for done in range(len(steps) + 1):
                    rests = changed(tuple((0, 0) for _ in task[1]), (number, 0), done)
                    standing = (rests, ((0, ()),) * task[0][2])
                    self.assertEqual(next_step(task, standing, number), steps[done] if done < len(steps) else None)


if __name__ == "__main__":
    unittest.main()
