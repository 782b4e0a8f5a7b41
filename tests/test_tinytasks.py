"""[150]: TINY TASKS by their numbers."""

import random
import unittest
from itertools import product

from tests.examples import NEVER_RIGHT, NO_TUPLES, changed, near_values, is_plain, places, refused
from washedarms.errors import BadNumber, BadShape
from washedarms.tasks import is_task
from washedarms.tinytasks import tiny_count, tiny_task

LEAST, GREATEST = (1, 1, 1, 1, 0, (1,), 1, -1), (2, 2, 2, 2, 1, (2, 2), 2, 2)
SMALL_SHAPES = (LEAST, (2, 1, 1, 1, 0, (1,), 1, -1), (1, 1, 1, 2, 0, (2,), 2, 0), (1, 2, 1, 1, 0, (1,), 1, 2),
                (1, 1, 2, 1, 1, (1,), 2, 2), (1, 1, 1, 1, 1, (1, 1), 1, -1), (1, 1, 2, 2, 0, (1, 1), 1, 1),
                (1, 2, 1, 1, 0, (2,), 1, 1), (2, 1, 1, 1, 0, (2,), 1, 2), (1, 1, 1, 1, 0, (1, 2), 1, 1),
                (1, 1, 1, 1, 0, (2, 1), 1, 1), (2, 2, 1, 1, 0, (1,), 2, -1))


def literal_tasks(shape):
    """All TINY TASKS of a SHAPE, in order, by the words of [150]: choices one after another."""
    stuffs, states, tools, arms, zones, counts, high, window = shape
    spans = [span for span in ((1, 1), (1, 2), (2, 2)) if span[1] <= high]
    first = product(range(states), repeat=stuffs)
    for clean in first:
        for others in product(product([None] + list(range(states)), repeat=stuffs), repeat=states - 1):
            for leaves in product([(0,), (0, 1)], repeat=states - 1):
                for span in spans:
                    lab = ((clean,) + others, ((((0,),) + leaves,) + span,), tools, arms, zones)
                    for samples in product(*[literal_samples(shape, many, spans) for many in counts]):
                        yield (lab, samples)


def literal_samples(shape, many, spans):
    """All SAMPLES with so many steps, in order."""
    stuffs, _, tools, _, zones, _, _, window = shape
    named = [(0,), (0, 1), (1,)] if tools == 2 else [(0,)]
    steps = [(stuff, some, used) + span for stuff in range(stuffs) for some in named
             for used in ([(), (0,)] if zones else [()]) for span in spans]
    windows = [None] + list(range(window + 1))
    if many == 1:
        return [((step,), (None,)) for step in steps]
    return [((step, other), (None, wait)) for step in steps for other in steps for wait in windows]


class TinyTest(unittest.TestCase):
    def test_all_of_small_shapes(self):
        for shape in SMALL_SHAPES:
            tasks = list(literal_tasks(shape))
            self.assertEqual(tiny_count(shape), len(tasks))
            self.assertEqual([tiny_task(shape, number) for number in range(len(tasks))], tasks)
            self.assertEqual(len(set(tasks)), len(tasks))
            self.assertTrue(all(is_task(task) for task in tasks))

    def test_by_hand(self):
        self.assertEqual(tiny_count(LEAST), 1)
        self.assertEqual(tiny_task(LEAST, 0), (
            (((0,),), ((((0,),), 1, 1),), 1, 1, 0), ((((0, (0,), (), 1, 1),), (None,)),)))
        # MEETS 4 * 9, the wash 2 * 3, each step 2 * 3 * 2 * 3 and the second ones 4 more.
        self.assertEqual(tiny_count(GREATEST), 36 * 6 * (36 * 36 * 4) ** 2)
        least = (0, (0,), (), 1, 1)
        self.assertEqual(tiny_task(GREATEST, 0), ((((0, 0), (None, None)), ((((0,), (0,)), 1, 1),), 2, 2, 1),
                                                  (((least, least), (None, None)),) * 2))
        great = (1, (1,), (0,), 2, 2)
        self.assertEqual(tiny_task(GREATEST, tiny_count(GREATEST) - 1), (
            (((1, 1), (1, 1)), ((((0,), (0, 1)), 2, 2),), 2, 2, 1), (((great, great), (None, 2)),) * 2))
        # The last choice is the least weighty one.
        self.assertEqual(tiny_task(GREATEST, 1)[1][1], ((least, least), (None, 0)))
        self.assertEqual(tiny_task(GREATEST, 4)[1][1][0][1], (0, (0,), (), 1, 2))
        self.assertEqual(tiny_task(GREATEST, 12)[1][1][0][1], (0, (0,), (0,), 1, 1))
        self.assertEqual(tiny_task(GREATEST, 24)[1][1][0][1], (0, (0, 1), (), 1, 1))

    def test_great_numbers(self):
        rng = random.Random(950)
        for _ in range(300):
            number = rng.randrange(tiny_count(GREATEST))
            task = tiny_task(GREATEST, number)
            self.assertTrue(is_task(task))
            self.assertEqual(task[0][2:], (2, 2, 1))

    def test_wrong_numbers(self):
        for shape in SMALL_SHAPES + (GREATEST,):
            many = tiny_count(shape)
            for wrong in NEVER_RIGHT + NO_TUPLES + (-1, many, many + 1, None, (0,)):
                if type(wrong) is not int or not 0 <= wrong < many:
                    refused(self, BadNumber, {"value": wrong}, tiny_task, shape, wrong)

    def test_wrong_shapes(self):
        wrong = list(NO_TUPLES) + [LEAST[:7], LEAST + (0,), list(LEAST), (LEAST,)]
        for shape in (LEAST, GREATEST):
            for place in range(8):
                wrong += [changed(shape, (place,), value) for value in NEVER_RIGHT + (None, (1,), -2, 3)
                          if (place, value) != (5, (1,))]
        for place, value in (((4,), 2), ((4,), -1), ((6,), 0), ((0,), 0), ((3,), 0), ((7,), -2), ((7,), 3), ((5,), ()),
                             ((5,), (1, 1, 1)), ((5,), (0,)), ((5,), (3,)), ((5,), (1, 0)), ((5,), [1]), ((5,), 1),
                             ((5, 0), True), ((5,), ((1,),))):
            wrong.append(changed(LEAST, place, value))
        for value in wrong:
            refused(self, BadShape, {"shape": value}, tiny_count, value)
            refused(self, BadShape, {"shape": value}, tiny_task, value, "x")

    def test_near_shapes(self):
        rng = random.Random(951)
        bounds = ((1, 2), (1, 2), (1, 2), (1, 2), (0, 1), None, (1, 2), (-1, 2))
        right = 0
        for value in near_values(GREATEST, rng, 200) + near_values(LEAST, rng, 200):
            good = is_plain(value) and len(value) == 8 and all(
                (type(one) is int and low[0] <= one <= low[1]) if low else
                (type(one) is tuple and len(one) in (1, 2)
                 and all(type(many) is int and many in (1, 2) for many in one))
                for one, low in zip(value, bounds))
            right += good
            if good:
                self.assertGreater(tiny_count(value), 0)
            else:
                refused(self, BadShape, {"shape": value}, tiny_count, value)
        self.assertGreater(right, 5)
        self.assertEqual(len(places(LEAST)), 10)


if __name__ == "__main__":
    unittest.main()
