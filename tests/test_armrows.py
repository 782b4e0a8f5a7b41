"""[612]: ARM ROWS."""

import random
import unittest
from itertools import combinations

from tests.examples import (
    EMPTY_TASK, HELD_ORDER, NEVER_RIGHT, NO_TUPLES, SOUND_ORDERS, TWO_LAB, TWO_ORDER, TWO_TASK, changed, is_plain,
    job_names, literal_led, near_values)
from washedarms.armrows import arm_rows, is_arm_rows, is_unled


def literal_is_unled(task, order, jobs):
    """Whether a tuple is an ascending one of jobs no one of which is led to another."""
    led = literal_led(task, order)
    return all(job in led for job in jobs) and list(jobs) == sorted(set(jobs)) and not any(
        other in led[job] for job in jobs for other in jobs)


def literal_is_arm_rows(task, order, paper):
    """Whether tuples of pairs are ARM ROWS, by [612]."""
    led = literal_led(task, order)
    if len(paper) > task[0][3] or list(paper) != sorted(set(paper)) or () in paper:
        return False
    if sorted(job for row in paper for job in row) != job_names(order):
        return False
    return all(later in led[job] for row in paper for job, later in zip(row, row[1:]))


def greatest_unled(task, order):
    """How many jobs no one of which is led to another there are at most."""
    return max(many for many in range(len(job_names(order)) + 1)
               if any(literal_is_unled(task, order, jobs) for jobs in combinations(job_names(order), many)))


class ArmRowsTest(unittest.TestCase):
    def test_as_few_as_the_greatest_unled_jobs(self):
        sizes = set()
        for task, order in SOUND_ORDERS:
            rows = arm_rows(task, order)
            self.assertTrue(literal_is_arm_rows(task, order, rows))
            self.assertIs(is_arm_rows(task, order, rows), True)
            self.assertEqual(len(rows), greatest_unled(task, order))
            sizes.add(len(rows))
        self.assertEqual(sizes, {0, 1, 2, 3})

    def test_other_rows(self):
        rng = random.Random(560)
        found = set()
        for task, order in SOUND_ORDERS:
            rows = arm_rows(task, order)
            others = [rows[::-1], rows + ((),), rows + rows[-1:], tuple(row[::-1] for row in rows)]
            jobs = job_names(order)
            for _ in range(20):
                split = [rng.randrange(task[0][3]) for _ in jobs]
                others.append(tuple(sorted(tuple(job for job, arm in zip(jobs, split) if arm == number)
                                           for number in range(task[0][3]) if number in split)))
            others += near_values(rows, rng, 6) if rows else []
            for other in others:
                shape = is_plain(other) and all(type(row) is tuple and all(job in jobs for job in row) for row in other)
                right = shape and literal_is_arm_rows(task, order, other)
                self.assertIs(is_arm_rows(task, order, other), right)
                found.add(right)
        self.assertEqual(found, {True, False})

    def test_by_hand(self):
        one, two, three, other = (0, 0), (0, 1), (0, 2), (1, 0)
        for rows, right in ((((one, two, three), (other,)), True), (((one, two), (other, three)), True),
                            (((one, three), (two,), (other,)), False), (((other,), (one, two, three)), False),
                            (((one, two, three),), False), (((one, two, three), (other,), ()), False),
                            (((one, three, two), (other,)), False), (((one, other), (two, three)), False),
                            (((one, two, three), (one,), (other,)), False), ((), False)):
            self.assertIs(is_arm_rows(TWO_TASK, TWO_ORDER, rows), right)
        self.assertEqual(arm_rows(EMPTY_TASK, (((),), ())), ())
        self.assertIs(is_arm_rows(EMPTY_TASK, (((),), ()), ()), True)
        self.assertIs(is_arm_rows(EMPTY_TASK, (((),), ()), ((),)), False)
        # One arm is enough for jobs that are led to one another through others.
        row = (TWO_ORDER[0], (((0, 1), 0, (1, 0)),))
        self.assertEqual(arm_rows((TWO_LAB[:3] + (1, 0), TWO_TASK[1]), row), ((one, two, other, three),))
        self.assertIs(is_arm_rows(TWO_TASK, HELD_ORDER, ((one, three), (two,), (other,))), False)

    def test_wrong_values(self):
        rows = ((((0, 0), (0, 1), (0, 2)), ((1, 0),)))
        self.assertIs(is_arm_rows(TWO_TASK, TWO_ORDER, rows), True)
        for wrong in NO_TUPLES + (list(rows), (list(rows[0]), rows[1]), (rows[0], None), (None, None), ((1, 2), (3,)),
                                  changed(rows, (0, 1, 1), True), changed(rows, (1, 0), (1, False)),
                                  changed(rows, (1, 0), [1, 0]), changed(rows, (1, 0), (1, 1))) + tuple(
                                      changed(rows, (1, 0), bad) for bad in NEVER_RIGHT):
            self.assertIs(is_arm_rows(TWO_TASK, TWO_ORDER, wrong), False)


class UnledTest(unittest.TestCase):
    def test_by_the_words(self):
        found = set()
        for task, order in SOUND_ORDERS:
            for many in range(4):
                for jobs in combinations(job_names(order), many):
                    right = literal_is_unled(task, order, jobs)
                    self.assertIs(is_unled(task, order, jobs), right)
                    self.assertIs(is_unled(task, order, jobs[::-1]), right and many < 2)
                    found.add((many, right))
        self.assertEqual(len(found), 6)

    def test_wrong_values(self):
        self.assertIs(is_unled(TWO_TASK, TWO_ORDER, ((0, 1), (1, 0))), True)
        self.assertIs(is_unled(TWO_TASK, TWO_ORDER, ()), True)
        for wrong in NO_TUPLES + ([(0, 1)], ((0, 1), (0, 1)), ((0, True), (1, 0)), ((0, 1), [1, 0]), ((0, 3),),
                                  ((2, 0),), ((0, 1), (1, 0), (1, 1)), ((1, 0), (0, 1)), ((-1, 0),), (0, 1),
                                  ((),)) + tuple((bad,) for bad in NEVER_RIGHT):
            self.assertIs(is_unled(TWO_TASK, TWO_ORDER, wrong), False)


if __name__ == "__main__":
    unittest.main()
