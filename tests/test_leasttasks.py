"""[150], [154]: numbers of TINY TASKS, the least ones for a WISH, and how SOONEST is spread."""

import random
import unittest
from functools import lru_cache

from tests.examples import (
    DOC_LAB, GREAT_TASK, NEVER_RIGHT, NO_TUPLES, RUN_TASK, SMALL_TASKS, TASK, changed, literal_done, literal_ranks,
    literal_rows, literal_soonest, near_values, is_plain, refused)
from tests.test_tinyholds import changed_tasks
from tests.test_tinytasks import GREATEST, LEAST, SMALL_SHAPES, literal_tasks
from washedarms.errors import BadNumber, BadShape, BadTask, BadWish, TooGreat
from washedarms.forms import start
from washedarms.leasttasks import is_least_task, least_task, tiny_number, tiny_spread
from washedarms.tasks import is_task
from washedarms.tinytasks import tiny_count, tiny_task

WISHES = ("never", "unsure", "arm", "spare", "wait", "wash")
# SHAPES of at most 200 TINY TASKS, and one with many kinds of them.
WISH_SHAPES = tuple(shape for shape in SMALL_SHAPES if tiny_count(shape) <= 200)
MANY_SHAPE = (2, 2, 2, 1, 0, (2, 1), 2, 1)


def sooner(ticks, other):
    """Whether one SOONEST is sooner than another one."""
    return ticks is not None and (other is None or ticks < other)


@lru_cache(maxsize=None)
def soonest_of(task):
    """SOONEST of the START."""
    return literal_soonest(task)


@lru_cache(maxsize=None)
def literal_wish(task, wish):
    """Whether a WISH is so, by the words of [154]."""
    tasks = changed_tasks(task)
    if wish == "never":
        return soonest_of(task) is None
    if wish in ("unsure", "arm", "spare"):
        other, = tasks[{"unsure": 6, "arm": 4, "spare": 5}[wish]]
        return sooner(soonest_of(other), soonest_of(task))
    ranks = literal_ranks(task, start(task))
    if ranks[start(task)] is None:
        return False
    found, ahead = set(), [start(task)]
    for one in ahead:
        if literal_done(task, one) or one in found:
            continue
        found.add(one)
        worth = {move: max((10 ** 9 if ranks[behind] is None else ranks[behind]) for _, behind in ends)
                 for move, ends in literal_rows(task, one)}
        best = [move for move in worth if worth[move] == min(worth.values())]
        if wish == "wait" and best == [()] and len(worth) > 1:
            return True
        if wish == "wash" and all(any(word == "wash" for _, word, _ in move) for move in best):
            if any([word for _, word, _ in move] == ["step"] for move in worth):
                return True
        ahead += [behind for move, ends in literal_rows(task, one) if move in best for _, behind in ends]
    return False


class NumberTest(unittest.TestCase):
    def test_there_and_back(self):
        rng = random.Random(970)
        for shape in SMALL_SHAPES:
            for number, task in enumerate(literal_tasks(shape)):
                self.assertEqual(tiny_number(shape, task), number)
        for shape in (GREATEST, MANY_SHAPE):
            for number in [0, tiny_count(shape) - 1] + [rng.randrange(tiny_count(shape)) for _ in range(200)]:
                self.assertEqual(tiny_number(shape, tiny_task(shape, number)), number)

    def test_other_tasks(self):
        rng = random.Random(971)
        for shape in SMALL_SHAPES[1:8]:
            tasks = {task: number for number, task in enumerate(literal_tasks(shape))}
            for task in rng.sample(list(tasks), min(10, len(tasks))):
                for other in near_values(task, rng, 12):
                    if is_plain(other) and is_task(other):
                        self.assertEqual(tiny_number(shape, other), tasks.get(other))
            for other in SMALL_TASKS + (GREAT_TASK, TASK, RUN_TASK):
                self.assertEqual(tiny_number(shape, other), tasks.get(other))
        for shape in SMALL_SHAPES:
            for other in SMALL_SHAPES:
                task = tiny_task(other, 0)
                self.assertEqual(tiny_number(shape, task),
                                 0 if task in list(literal_tasks(shape))[:1] else tiny_number(shape, task))
        self.assertIsNone(tiny_number((1, 1, 1, 1, 1, (1,), 1, -1), tiny_task(LEAST, 0)))
        self.assertIsNone(tiny_number((1, 1, 2, 1, 0, (1,), 1, -1), tiny_task(LEAST, 0)))
        self.assertIsNone(tiny_number((1, 1, 1, 2, 0, (1,), 1, -1), tiny_task(LEAST, 0)))
        self.assertIsNone(tiny_number((2, 1, 1, 1, 0, (1,), 1, -1), tiny_task(LEAST, 0)))
        self.assertIsNone(tiny_number((1, 2, 1, 1, 0, (1,), 1, -1), tiny_task(LEAST, 0)))
        self.assertEqual(tiny_number((1, 1, 1, 1, 0, (1,), 2, 2), tiny_task(LEAST, 0)), 0)
        self.assertIsNone(tiny_number(LEAST, changed(tiny_task(LEAST, 0), (0, 1), ())))
        self.assertIsNone(tiny_number(LEAST, (tiny_task(LEAST, 0)[0], ())))

    def test_errors_in_their_order(self):
        for wrong in NO_TUPLES:
            refused(self, BadShape, {"shape": wrong}, tiny_number, wrong, "x")
            refused(self, BadTask, {"word": "task", "place": ()}, tiny_number, LEAST, wrong)
        refused(self, BadTask, {"word": "samples", "place": (1,)}, tiny_number, LEAST, (DOC_LAB, 0))


class WishTest(unittest.TestCase):
    def test_by_the_words(self):
        rng = random.Random(972)
        found = {}
        for shape in WISH_SHAPES + (MANY_SHAPE,) * 3 + ((1, 2, 2, 1, 1, (1, 2), 2, 1),) * 3:
            many = tiny_count(shape)
            for wish in WISHES:
                first = rng.randrange(many) if many < 400 else rng.randrange(many - 20)
                span = rng.choice((1, 2, 15))
                told = least_task(shape, wish, first, span)
                right = [number for number in range(first, min(first + span, many))
                         if literal_wish(tiny_task(shape, number), wish)]
                self.assertEqual(told, min(right, default=None))
                found[wish, told is None] = found.get((wish, told is None), 0) + 1
                for number in range(first, min(first + span, many)):
                    self.assertIs(is_least_task(shape, wish, first, number), bool(right) and number == right[0])
        self.assertGreater(len(found), 8)

    def test_all_of_small_shapes(self):
        for shape in WISH_SHAPES:
            tasks = list(literal_tasks(shape))
            for wish in WISHES:
                right = [number for number, task in enumerate(tasks) if literal_wish(task, wish)]
                found, first = [], 0
                while first is not None and first < len(tasks):
                    told = least_task(shape, wish, first, 200)
                    found += [] if told is None else [told]
                    first = None if told is None else told + 1
                self.assertEqual(found, right)

    def test_each_wish(self):
        """For each WISH TINY TASKS of which it is so, and of which it is not."""
        rng = random.Random(973)
        for wish, shape in (("never", MANY_SHAPE), ("unsure", (1, 1, 2, 2, 0, (2, 2), 2, 0)),
                            ("arm", (1, 1, 2, 1, 0, (1, 1), 2, -1)), ("spare", MANY_SHAPE),
                            ("wait", (1, 1, 2, 2, 1, (2, 2), 2, 0)), ("wash", (1, 2, 2, 2, 0, (2, 2), 2, 0))):
            found = {True: 0, False: 0}
            for _ in range(400):
                number = rng.randrange(tiny_count(shape))
                told = is_least_task(shape, wish, number, number)
                self.assertEqual(least_task(shape, wish, number, 1), number if told else None)
                found[told] += 1
                if found[told] < 12:
                    self.assertIs(told, literal_wish(tiny_task(shape, number), wish))
                if min(found.values()) >= 3 and sum(found.values()) > 40:
                    break
            self.assertGreater(min(found.values()), 0, wish)

    def test_by_hand(self):
        # One stuff, which makes the tool useless for itself: (0, None) with a wash that may leave it as it is.
        shape = (1, 2, 1, 1, 0, (1, 1), 1, -1)
        tasks = list(literal_tasks(shape))
        never = [number for number, task in enumerate(tasks) if soonest_of(task) is None]
        self.assertEqual(least_task(shape, "never", 0, 200), never[0])
        self.assertEqual(tasks[never[0]][0][:2], (((1,), (None,)), ((((0,), (0, 1)), 1, 1),)))
        self.assertEqual(least_task(shape, "never", never[0] + 1, 200), never[1] if len(never) > 1 else None)
        self.assertIs(is_least_task(shape, "never", 0, never[0]), True)
        self.assertIs(is_least_task(shape, "never", 0, never[0] + 1), False)
        self.assertIsNone(least_task(LEAST, "never", 0, 200))
        self.assertIsNone(least_task(shape, "never", 0, never[0]))
        self.assertEqual(least_task(shape, "never", 0, never[0] + 1), never[0])

    def test_errors_in_their_order(self):
        for call in (least_task, is_least_task):
            for wrong in NO_TUPLES:
                refused(self, BadShape, {"shape": wrong}, call, wrong, "x", "y", "z")
            for wrong in NEVER_RIGHT + NO_TUPLES + ("", "Never", "never ", None, ("never",)):
                refused(self, BadWish, {"value": wrong}, call, LEAST, wrong, "y", "z")
            for wish in WISHES:
                for wrong in NEVER_RIGHT + (1, -1, None, (0,)):
                    refused(self, BadNumber, {"value": wrong}, call, LEAST, wish, wrong, "z")
                for wrong in NEVER_RIGHT + (201 if call == least_task else 1, -1, None, (0,)):
                    refused(self, BadNumber, {"value": wrong}, call, LEAST, wish, 0, wrong)
        refused(self, BadNumber, {"value": 0}, least_task, LEAST, "never", 0, 0)
        refused(self, BadNumber, {"value": 201}, least_task, GREATEST, "arm", 0, 201)
        self.assertIsNone(least_task(LEAST, "arm", 0, 200))
        self.assertIsNone(least_task(LEAST, "arm", 0, 1))
        many = tiny_count(MANY_SHAPE)
        refused(self, BadNumber, {"value": 300}, is_least_task, MANY_SHAPE, "never", 100, 300)
        self.assertIn(is_least_task(MANY_SHAPE, "never", 100, 299), (True, False))
        refused(self, BadNumber, {"value": 99}, is_least_task, MANY_SHAPE, "never", 100, 99)
        refused(self, BadNumber, {"value": many}, is_least_task, MANY_SHAPE, "never", many - 1, many)
        refused(self, BadNumber, {"value": many}, least_task, MANY_SHAPE, "never", many, 1)
        self.assertIn(least_task(MANY_SHAPE, "never", many - 1, 200), (None, many - 1))


class SpreadTest(unittest.TestCase):
    def test_by_the_words(self):
        for shape in WISH_SHAPES:
            found = [soonest_of(task) for task in literal_tasks(shape)]
            most = max([-1] + [ticks for ticks in found if ticks is not None])
            right = tuple(found.count(ticks) for ticks in list(range(most + 1)) + [None])
            self.assertEqual(tiny_spread(shape), right)
            self.assertEqual(sum(right), tiny_count(shape))

    def test_by_hand(self):
        self.assertEqual(tiny_spread(LEAST), (0, 1, 0))
        self.assertEqual(tiny_spread((2, 1, 1, 1, 0, (1,), 1, -1)), (0, 2, 0))

    def test_too_many(self):
        self.assertGreater(len(WISH_SHAPES), 6)
        for shape in SMALL_SHAPES + (GREATEST,):
            if tiny_count(shape) > 200:
                refused(self, TooGreat, {"most": 200}, tiny_spread, shape)
        for wrong in NO_TUPLES:
            refused(self, BadShape, {"shape": wrong}, tiny_spread, wrong)


if __name__ == "__main__":
    unittest.main()
