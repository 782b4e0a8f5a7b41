"""[207]: DEALINGS of EVEN TASKS."""

import random
import unittest
from itertools import product

from tests.examples import (
    DOC_LAB, EMPTY_TASK, NEVER_RIGHT, NO_TUPLES, RUN_TASK, TASK, changed, literal_soonest, literal_washing,
    random_lab)
from washedarms.dealings import dealing_late, least_dealing
from washedarms.errors import BadDealing, BadTask, NotEven

LAB = DOC_LAB[:1] + ((((((0,), (0,), (0,))), 1, 3),),) + (2, 2, 2)


def step(stuff, tools=(0, 1), high=2, zones=()):
    """A SAMPLE of one step."""
    return (((stuff, tools, zones, 1, high),), (None,))


NOTHING = ((), ())


def even_tasks(seed, many):
    """Some EVEN TASKS."""
    rng = random.Random(seed)
    found = []
    while len(found) < many:
        lab = random_lab(rng, states=rng.randint(2, 3), stuffs=2, washes=rng.randint(0, 2), tools=2,
                         arms=rng.randint(1, 2))
        samples = []
        one_tool = rng.random() < 0.5
        for _ in range(rng.randint(0, 3)):
            tools = rng.choice(((0,), (1,)) if one_tool else ((0,), (1,), (0, 1)))
            low = rng.randint(1, 2)
            samples.append((((rng.randrange(2), tools, (), low, rng.randint(low, 2)),), (None,))
                           if rng.random() < 0.9 else NOTHING)
        if not one_tool:
            washes = tuple((tuple(row[:1] for row in after), low, high) for after, low, high in lab[1])
            lab = (lab[0], washes) + lab[2:]
        found.append((lab, tuple(samples)))
    return found


def literal_late(task, dealing):
    """By what a DEALING is LATE, by the words of [207]."""
    lab, samples = task
    loads = []
    for tool in range(lab[2]):
        steps = [sample[0][0] for sample, dealt in zip(samples, dealing) if dealt == tool]
        lot = tuple(len([one for one in steps if one[0] == stuff]) for stuff in range(len(lab[0][0])))
        ticks = literal_washing(lab, 0, lot)
        loads.append(None if ticks is None else ticks + sum(one[4] for one in steps))
    if None in loads:
        return None
    return max(loads) if lab[3] >= lab[2] else sum(loads)


def literal_dealings(task):
    """All DEALINGS, ascending."""
    return list(product(*[sample[0][0][1] if sample[0] else (-1,) for sample in task[1]]))


class DealingsTest(unittest.TestCase):
    def test_by_the_words(self):
        for task in even_tasks(38, 60):
            rows = [(literal_late(task, dealing), dealing) for dealing in literal_dealings(task)]
            for late, dealing in rows:
                self.assertEqual(dealing_late(task, dealing), late)
            known = [row for row in rows if row[0] is not None]
            self.assertEqual(least_dealing(task), min(known) if known else None)

    def test_soonest_of_the_start(self):
        found = set()
        for task in even_tasks(39, 40):
            told = least_dealing(task)
            self.assertEqual(literal_soonest(task), None if told is None else told[0])
            found.add(told is None)
        self.assertEqual(found, {True, False})

    def test_by_hand(self):
        task = (LAB, (step(0), step(1), NOTHING, step(0, (1,), 6)))
        self.assertEqual(dealing_late(task, (0, 0, -1, 1)), 7)
        self.assertEqual(dealing_late(task, (0, 1, -1, 1)), 11)
        self.assertEqual(dealing_late(task, (1, 0, -1, 1)), 8)
        self.assertEqual(least_dealing(task), (7, (0, 0, -1, 1)))
        one_arm = (LAB[:3] + (1, 2), task[1])
        self.assertEqual(dealing_late(one_arm, (0, 0, -1, 1)), 13)
        self.assertEqual(least_dealing(one_arm), (10, (1, 0, -1, 1)))
        # Of DEALINGS that are LATE by the same the least one is told.
        self.assertEqual(least_dealing((LAB, (step(0), step(0)))), (2, (0, 1)))
        self.assertEqual(least_dealing((LAB, ())), (0, ()))
        self.assertEqual(least_dealing((LAB, (NOTHING,))), (0, (-1,)))
        self.assertEqual(dealing_late((LAB, ()), ()), 0)
        self.assertEqual(least_dealing(EMPTY_TASK), (0, ()))

    def test_never(self):
        lab = (LAB[0], ()) + LAB[2:]
        task = (lab, (step(0, (0,)), step(1, (0,)), step(1, (1,))))
        self.assertIsNone(dealing_late(task, (0, 0, 1)))
        self.assertIsNone(least_dealing(task))
        task = (lab, (step(0), step(1)))
        self.assertIsNone(dealing_late(task, (1, 1)))
        self.assertEqual(least_dealing(task), (2, (0, 1)))

    def test_not_even(self):
        unsure = (LAB[0], ((((0,), (0, 1), (0,)), 1, 3),)) + LAB[2:]
        for task, right in (
                ((LAB, (step(0),)), True), ((LAB, (step(0, zones=(0,)),)), False), (RUN_TASK, False), (TASK, False),
                ((LAB, (step(0), (step(0)[0] * 2, (None, None)))), False), ((unsure, (step(0, (0,)),)), True),
                ((unsure, (step(0),)), False), ((unsure, (step(0, (0,)), step(0))), False),
                ((unsure, ()), True), ((LAB[:2] + (3, 2, 0), ()), False), ((LAB[:2] + (3, 1, 0), ()), True),
                ((LAB[:2] + (3, 3, 0), (step(0),)), True), ((LAB[:2] + (1, 3, 0), (step(0, (0,)),)), True),
                ((LAB[:2] + (3, 2, 0), (step(0, (0,)),)), False)):
            if right:
                least_dealing(task)
                dealing_late(task, literal_dealings(task)[0])
            else:
                with self.assertRaises(NotEven):
                    least_dealing(task)
                with self.assertRaises(NotEven):
                    dealing_late(task, "x")

    def test_no_dealings(self):
        task = (LAB, (step(0), NOTHING, step(1, (1,))))
        right = (0, -1, 1)
        self.assertEqual(dealing_late(task, right), 2)
        for place in ((0,), (1,), (2,)):
            for wrong in NEVER_RIGHT + (None, 2, (0,)) + ((-1,) if place != (1,) else (0, 1)):
                self.check_bad(task, changed(right, place, wrong))
        self.check_bad(task, (0, -1, 0))
        for wrong in NO_TUPLES + ((), (0, -1), (0, -1, 1, 0), [0, -1, 1]):
            self.check_bad(task, wrong)
        for wrong in NO_TUPLES + ((0,),):
            self.check_bad((LAB, ()), wrong)

    def check_bad(self, task, wrong):
        with self.assertRaises(BadDealing) as caught:
            dealing_late(task, wrong)
        self.assertIs(caught.exception.value, wrong)

    def test_wrong_tasks(self):
        for wrong in NO_TUPLES + ((LAB, 0),):
            with self.assertRaises(BadTask):
                dealing_late(wrong, "x")
            with self.assertRaises(BadTask):
                least_dealing(wrong)


if __name__ == "__main__":
    unittest.main()
