"""[710], [711]: easier TASKS, STANDINGS led to them, COVERS that this makes."""

import random
import unittest
from unittest import mock

from tests.examples import (
    CROSS_TASK, DOC_LAB, EMPTY_TASK, EVEN_TASKS, GREAT_TASK, HUGE_TASK, MANY_STANDINGS, NO_TUPLES, PAPER_TASK,
    RUN_TASK, SMALL_TASKS, TASK, TWO_TASK, WINDOW_TASK, WRONG_STANDINGS, changed, literal_broken, literal_comings,
    literal_moves, literal_pair_word, literal_ticks, random_tasks, refused, some_standings)
from washedarms import easier
from washedarms.covers import cover_fault
from washedarms.easier import easier_cover, is_easier, led_standing
from washedarms.errors import BadStanding, BadTask, NotEasier, TooGreat
from washedarms.forms import is_standing, start
from washedarms.ranks import soonest
from washedarms.tasks import is_task

# Two tools, a wash that leaves one of two states, a zone and a window; each number can be made greater and lesser.
LAB = (((1, 0), (1, None), (None, 1)), ((((0,), (0, 1), (0, 2)), 1, 2), (((0,), (0,), (1,)), 2, 3)), 2, 2, 2)
HARD_TASK = (LAB, ((((0, (0,), (0,), 1, 3), (1, (0, 1), (0, 1), 1, 2)), (None, 1)), (((1, (1,), (), 2, 2),), (None,))))


def literal_is_easier(task, other):
    """Whether the one TASK is easier than the other one, by the words of [710]."""
    (meets, washes, tools, arms, _), samples = task
    (meets_b, washes_b, tools_b, arms_b, _), samples_b = other
    if [len(steps) for steps, _ in samples] != [len(steps) for steps, _ in samples_b]:
        return False
    for (steps, windows), (steps_b, windows_b) in zip(samples, samples_b):
        for step, step_b, window, window_b in zip(steps, steps_b, windows, windows_b):
            if step[0] != step_b[0] or not set(step_b[1]) <= set(step[1]) or not set(step[2]) <= set(step_b[2]):
                return False
            if not set(range(step[3], step[4] + 1)) <= set(range(step_b[3], step_b[4] + 1)):
                return False
            if window is not None and (window_b is None or window < window_b):
                return False
    if len(meets) < len(meets_b) or len(meets[0]) < len(meets_b[0]) or len(washes) < len(washes_b):
        return False
    if tools < tools_b or arms < arms_b:
        return False
    for state, row in enumerate(meets_b):
        for stuff, behind in enumerate(row):
            if behind is not None and meets[state][stuff] != behind:
                return False
    for (after, low, high), (after_b, low_b, high_b) in zip(washes, washes_b):
        if low < low_b or high > high_b:
            return False
        if any(not set(after[state]) <= set(after_b[state]) for state in range(len(meets_b))):
            return False
    return True


def literal_led(task, place):
    """The STANDING of an easier TASK to which one is led, by [711]; None where a job has run too long."""
    lab, samples = task
    rests, pairs = place
    for _, job in pairs:
        if len(job) == 3:
            high = lab[1][job[1]][2] if job[0] == "wash" else samples[job[1]][0][rests[job[1]][0]][4]
            if job[2] >= high:
                return None
    led = []
    for (steps, windows), (done, waited) in zip(samples, rests):
        counts = 1 <= done < len(steps) and windows[done] is not None
        led.append((done, waited if counts else 0))
    return tuple(led), pairs + ((0, ()),) * (lab[2] - len(pairs))


def literal_cover(task, other):
    """The live pairs (led Y, Y) of [711], and how many Y come."""
    found, ahead = {start(other)}, [start(other)]
    for one in ahead:
        led = literal_led(task, one)
        if literal_pair_word(other, one, other, one) != "live":
            continue
        for move in literal_moves(other, one):
            ends = dict(literal_ticks(other, one, move))
            for late, behind in literal_ticks(task, led, move):
                if literal_led(task, ends[late]) != behind:
                    raise AssertionError("what is led goes on elsewhere")
                if ends[late] not in found:
                    found.add(ends[late])
                    ahead.append(ends[late])
    pairs = [(literal_led(task, one), one) for one in found]
    live = sorted(pair for pair in pairs if literal_pair_word(task, pair[0], other, pair[1]) == "live")
    return tuple(live), len(found)


def made_easier(rng, task):
    """An easier TASK, made so thing by thing."""
    (meets, washes, tools, arms, zones), samples = task
    rows = tuple(tuple(rng.choice((behind, behind, 0)) if behind is None else behind for behind in row)
                 for row in meets)
    rows += tuple((0,) * len(meets[0]) for _ in range(rng.choice((0, 0, 1)) if len(meets) < 8 else 0))
    made = []
    for after, low, high in washes:
        low = rng.randint(low, high)
        after = tuple(rng.choice((results, results[:1], results[-1:])) for results in after)
        made.append((after + ((0,),) * (len(rows) - len(meets)), low, rng.randint(low, high)))
    if len(made) < 3 and rng.random() < 0.2:
        made.append((((0,),) * len(rows), 1, 1))
    lab = (rows, tuple(made), min(3, tools + rng.choice((0, 0, 1))), min(3, arms + rng.choice((0, 0, 1))), zones)
    rows = []
    for steps, windows in samples:
        told, wider = [], []
        for (stuff, named, used, low, high), window in zip(steps, windows):
            low = rng.randint(low, high)
            more = tuple(tool for tool in range(lab[2]) if tool in named or rng.random() < 0.3)
            told.append((stuff, more, tuple(zone for zone in used if rng.random() < 0.6), low, rng.randint(low, high)))
            wider.append(None if window is None or rng.random() < 0.4 else rng.randint(window, 6))
        rows.append((tuple(told), tuple(wider)))
    return (lab, tuple(rows))


def easier_pairs(seed, many):
    """Some pairs of an easier TASK and another one."""
    rng = random.Random(seed)
    tasks = SMALL_TASKS + EVEN_TASKS
    return [(made_easier(rng, task), task) for task in (rng.choice(tasks) for _ in range(many))]


PAIRS = easier_pairs(730, 60)


class EasierTest(unittest.TestCase):
    def test_made_easier(self):
        for task, other in PAIRS:
            self.assertTrue(is_task(task))
            self.assertIs(is_easier(task, other), True)
            self.assertTrue(literal_is_easier(task, other))
            self.assertIs(is_easier(other, task), literal_is_easier(other, task))
        for task in SMALL_TASKS + (EMPTY_TASK, GREAT_TASK, HUGE_TASK, TASK):
            self.assertIs(is_easier(task, task), True)

    def test_number_by_number(self):
        """Each number of a TASK one more and one less, each tuple longer and shorter, None put in and out."""
        rng = random.Random(731)
        found = set()
        for task in (HARD_TASK, TASK, WINDOW_TASK, CROSS_TASK, TWO_TASK):
            for other in all_near(task):
                for one, two in ((other, task), (task, other)):
                    right = literal_is_easier(one, two)
                    self.assertIs(is_easier(one, two), right)
                    found.add(right)
        tasks = random_tasks(732, 60, samples=1, steps=1)
        for _ in range(2000):
            one, two = rng.choice(tasks), rng.choice(tasks)
            self.assertIs(is_easier(one, two), literal_is_easier(one, two))
        self.assertEqual(found, {True, False})

    def test_by_hand(self):
        for place, new, easier_one, harder in (
                ((0, 0, 1, 1), 2, True, False), ((0, 0, 0, 0), 0, False, False), ((0, 1, 0, 0, 1), (0,), True, False),
                ((0, 1, 0, 1), 2, True, False), ((0, 1, 0, 2), 1, True, False), ((0, 1, 0, 2), 3, False, True),
                ((0, 1), LAB[1][:1], False, True), ((0, 2), 3, True, False), ((0, 3), 3, True, False),
                ((0, 3), 1, False, True), ((0, 4), 3, True, True), ((1, 0, 0, 0, 0), 1, False, False),
                ((1, 0, 0, 0, 1), (0, 1), True, False), ((1, 0, 0, 0, 1), (1,), False, False),
                ((1, 0, 0, 0, 2), (), True, False), ((1, 0, 0, 0, 2), (1,), False, False),
                ((1, 0, 0, 0, 3), 2, True, False), ((1, 0, 0, 0, 4), 2, True, False), ((1, 0, 0, 0, 4), 4, False, True),
                ((1, 0, 1, 1), None, True, False), ((1, 0, 1, 1), 2, True, False), ((1, 0, 1, 1), 0, False, True),
                ((1,), HARD_TASK[1][:1], False, False)):
            task = changed(HARD_TASK, place, new)
            self.assertTrue(is_task(task))
            self.assertIs(is_easier(task, HARD_TASK), easier_one, (place, new))
            self.assertIs(is_easier(HARD_TASK, task), harder, (place, new))


def all_near(task):
    """All TASKS with one number or None changed, or one thing of a tuple left out or put in."""
    found = []

    def look(value, put):
        if type(value) is int or value is None:
            found.extend(put(new) for new in ((None, 0) if value is None else (value - 1, value + 1, None)))
            return
        for index, part in enumerate(value):
            look(part, lambda new, index=index: put(value[:index] + (new,) + value[index + 1:]))
            found.append(put(value[:index] + value[index + 1:]))
            found.append(put(value[:index] + (part,) + value[index:]))
            if type(part) is int:
                found.extend(put(value[:index] + (number,) + value[index:]) for number in range(4))

    look(task, lambda new: new)
    return [other for other in found if is_task(other)]


class LedTest(unittest.TestCase):
    def test_by_the_words(self):
        nones = 0
        for task, other in PAIRS:
            for place in some_standings(other, 8):
                told = led_standing(task, other, place)
                self.assertEqual(told, literal_led(task, place))
                nones += told is None
                if told is not None:
                    self.assertTrue(is_standing(task, told))
        self.assertGreater(nones, 20)

    def test_by_hand(self):
        place = (((1, 2), (0, 0)), ((1, ("wash", 1, 2)), (2, ("out",))))
        self.assertEqual(led_standing(HARD_TASK, HARD_TASK, place), place)
        wide = changed(HARD_TASK, (1, 0, 1, 1), 6)
        self.assertEqual(led_standing(wide, HARD_TASK, place), place)
        none = changed(changed(HARD_TASK, (1, 0, 1, 1), None), (0, 2), 3)
        self.assertEqual(led_standing(none, HARD_TASK, place), (((1, 0), (0, 0)), place[1] + ((0, ()),)))
        # HIGH is 2 there: the wash has run for 2 ticks; it has for less than 3.
        short = changed(HARD_TASK, (0, 1, 1, 2), 2)
        self.assertIsNone(led_standing(short, HARD_TASK, place))
        self.assertEqual(led_standing(short, HARD_TASK, changed(place, (1, 0, 1, 2), 1)),
                         changed(place, (1, 0, 1, 2), 1))
        short = changed(HARD_TASK, (1, 0, 0, 0, 4), 2)
        runs = (((0, 0), (0, 0)), ((0, ("step", 0, 2)), (0, ())))
        self.assertIsNone(led_standing(short, HARD_TASK, runs))
        self.assertEqual(led_standing(short, HARD_TASK, changed(runs, (1, 0, 1, 2), 1)),
                         changed(runs, (1, 0, 1, 2), 1))
        shorter = changed(short, (1, 0, 0, 0, 4), 1)
        self.assertIsNone(led_standing(shorter, HARD_TASK, changed(runs, (1, 0, 1, 2), 1)))


class CoverTest(unittest.TestCase):
    def test_by_the_words(self):
        for task, other in PAIRS:
            cover, many = literal_cover(task, other)
            self.assertEqual(easier_cover(task, other), cover)
            self.assertIsNone(cover_fault(task, other, cover))
            first = (literal_led(task, start(other)), start(other))
            self.assertEqual(first[0], start(task))
            self.assertTrue(first in cover or literal_pair_word(task, first[0], other, first[1]) == "good")
            with mock.patch.object(easier, "MOST_NODES", many):
                self.assertEqual(easier_cover(task, other), cover)
            with mock.patch.object(easier, "MOST_NODES", many - 1):
                if many > 1:
                    refused(self, TooGreat, {"most": many - 1}, easier_cover, task, other)

    def test_soonest(self):
        for task, other in PAIRS:
            least, most = soonest(task, start(task)), soonest(other, start(other))
            self.assertTrue(most is None or (least is not None and least <= most))

    def test_a_task_and_itself(self):
        for task in SMALL_TASKS:
            self.assertEqual(easier_cover(task, task), tuple(sorted(
                (one, one) for one in literal_comings(task) if literal_pair_word(task, one, task, one) == "live")))
        self.assertEqual(easier_cover(EMPTY_TASK, EMPTY_TASK), ())

    def test_broken_ones(self):
        # Of a STANDING that is broken nothing goes on, though the one that it is led to is not.
        wide = changed(RUN_TASK, (1, 0, 1, 1), None)
        cover = easier_cover(wide, RUN_TASK)
        self.assertFalse(any(literal_broken(RUN_TASK, one) for _, one in cover))
        self.assertEqual(cover, literal_cover(wide, RUN_TASK)[0])


class ErrorsTest(unittest.TestCase):
    def test_errors_in_their_order(self):
        wrong = (DOC_LAB, 0)
        for call, more in ((is_easier, ()), (led_standing, ("x",)), (easier_cover, ())):
            refused(self, BadTask, {"word": "samples", "place": (1,)}, call, wrong, "x", *more)
            refused(self, BadTask, {"word": "samples", "place": (1,)}, call, RUN_TASK, wrong, *more)
            for value in NO_TUPLES:
                refused(self, BadTask, {"word": "task", "place": ()}, call, value, wrong, *more)
                refused(self, BadTask, {"word": "task", "place": ()}, call, RUN_TASK, value, *more)
        refused(self, NotEasier, {}, led_standing, RUN_TASK, PAPER_TASK, "x")
        refused(self, NotEasier, {}, easier_cover, RUN_TASK, PAPER_TASK)
        refused(self, NotEasier, {}, easier_cover, changed(HUGE_TASK, (1, 0, 1, 1), 5), HUGE_TASK)
        for value in WRONG_STANDINGS:
            with self.assertRaises(BadStanding):
                led_standing(RUN_TASK, RUN_TASK, value)
        # It is a STANDING of the other TASK.
        wide = changed(RUN_TASK, (1, 0, 1, 1), 3)
        refused(self, BadStanding, {"word": "samples", "place": (0, 0, 1)}, led_standing, wide, RUN_TASK,
                (((1, 3),), ((0, ()),)))

    def test_too_many(self):
        few, many = MANY_STANDINGS
        # Those that are done come, too, but are not told.
        self.assertEqual(len(easier_cover(few, few)), 16384)
        refused(self, TooGreat, {"most": 20000}, easier_cover, many, many)
        refused(self, TooGreat, {"most": 20000}, easier_cover, HUGE_TASK, HUGE_TASK)


if __name__ == "__main__":
    unittest.main()
