"""[32]: the numbers of all STANDINGS."""

import random
import unittest
from itertools import product

from tests.examples import (
    EMPTY_TASK, GREAT_TASK, HUGE_TASK, NEVER_RIGHT, RUN_TASK, TASK, literal_positions, literal_standings,
    random_tasks)
from washedarms.errors import BadNumber, BadStanding, BadTask
from washedarms.forms import is_standing, start
from washedarms.numbering import number_of_standing, standing_at, standings_number

SMALL = [EMPTY_TASK, RUN_TASK] + random_tasks(7, 8, states=2, tools=2) + random_tasks(
    8, 4, states=1, stuffs=1, samples=3, steps=1, tools=2, arms=2, zones=1) + random_tasks(
    81, 2, states=1, stuffs=1, samples=2, steps=1, tools=3, arms=2, zones=1, washes=1)


def told_count(task):
    """The sum that [32] tells."""
    lab, samples = task
    states = len(lab[0])
    works = [None] + [("wash", wash) for wash in range(len(lab[1]))] + [
        ("step", sample, step) for sample, row in enumerate(samples) for step in range(len(row[0]))]
    total = 0
    for way in product(works, repeat=lab[2]):
        steps = [(work[1], samples[work[1]][0][work[2]], tool)
                 for tool, work in enumerate(way) if work is not None and work[0] == "step"]
        on = [sample for sample, _, _ in steps]
        zones = [zone for _, step, _ in steps for zone in step[2]]
        if len(set(on)) < len(on) or len(set(zones)) < len(zones):
            continue
        if len(way) - way.count(None) > lab[3] or any(tool not in step[1] for _, step, tool in steps):
            continue
        many = 1
        for work in way:
            if work is None:
                many *= 2 * states
            elif work[0] == "wash":
                many *= states * (lab[1][work[1]][2] - 1)
        for _, step, _ in steps:
            many *= len([row for row in lab[0] if row[step[0]] is not None]) * (step[4] - 1)
        for number, sample in enumerate(samples):
            if number not in on:
                many *= len(literal_positions(sample))
        total += many
    return total


class NumberingTest(unittest.TestCase):
    def test_all_of_small_tasks(self):
        for task in SMALL:
            rows = literal_standings(task)
            self.assertEqual(standings_number(task), len(rows))
            self.assertEqual(told_count(task), len(rows))
            step = max(1, len(rows) // 400)
            for number in sorted(set(range(0, len(rows), step)) | {len(rows) - 1}):
                self.assertEqual(standing_at(task, number), rows[number])
                self.assertEqual(number_of_standing(task, rows[number]), number)

    def test_counts(self):
        self.assertEqual(standings_number(EMPTY_TASK), 2)
        self.assertEqual([standing_at(EMPTY_TASK, 0), standing_at(EMPTY_TASK, 1)],
                         [((), ((0, ()),)), ((), ((0, ("out",)),))])
        for task in (TASK, GREAT_TASK):
            self.assertEqual(standings_number(task), told_count(task))

    def test_a_huge_task(self):
        many = standings_number(HUGE_TASK)
        self.assertGreater(many, 10 ** 12)
        self.assertEqual(many, told_count(HUGE_TASK))
        rng = random.Random(9)
        for number in [0, 1, many - 2, many // 2] + [rng.randrange(many - 1) for _ in range(8)]:
            one, other = standing_at(HUGE_TASK, number), standing_at(HUGE_TASK, number + 1)
            self.assertTrue(is_standing(HUGE_TASK, one))
            self.assertTrue(is_standing(HUGE_TASK, other))
            self.assertLess(one, other)
            self.assertEqual(number_of_standing(HUGE_TASK, one), number)
            self.assertEqual(number_of_standing(HUGE_TASK, other), number + 1)

    def test_first_and_last(self):
        for task in SMALL + [TASK, HUGE_TASK]:
            many = standings_number(task)
            self.assertEqual(standing_at(task, 0), start(task))
            last = (tuple(literal_positions(sample)[-1] for sample in task[1]), )
            self.assertEqual(standing_at(task, many - 1)[:1], last)
            self.assertEqual(number_of_standing(task, start(task)), 0)
            self.assertEqual(number_of_standing(task, standing_at(task, many - 1)), many - 1)
            for wrong in NEVER_RIGHT + (-1, many, many + 1, None, (), (0,)):
                with self.assertRaises(BadNumber) as caught:
                    standing_at(task, wrong)
                self.assertIs(caught.exception.value, wrong)

    def test_wrong_arguments(self):
        with self.assertRaises(BadTask):
            standings_number((EMPTY_TASK[0], 1))
        with self.assertRaises(BadTask):
            standing_at((EMPTY_TASK[0], 1), "x")
        with self.assertRaises(BadTask):
            number_of_standing((EMPTY_TASK[0], 1), "x")
        for wrong in NEVER_RIGHT + ((), ((), ()), ((), ((1, ()),)), None):
            with self.assertRaises(BadStanding):
                number_of_standing(EMPTY_TASK, wrong)
        with self.assertRaises(BadStanding) as caught:
            number_of_standing(EMPTY_TASK, ((), ((0, ("in",)),)))
        self.assertEqual((caught.exception.word, caught.exception.place), ("tools", (1, 0, 1)))


if __name__ == "__main__":
    unittest.main()
