"""[611], [614]: ORDERS played as RUNS, RUNS read as ORDERS."""

import random
import unittest

from tests.examples import (
    DOC_LAB, EMPTY_TASK, HELD_ORDER, NO_TUPLES, RUN, RUN_LAB, RUN_ORDER, RUN_TASK, SMALL_TASKS, SOUND_ORDERS, TWO_ORDER,
    TWO_TASK, all_fates, job_names, literal_begins, literal_done, literal_rows, random_task, refused)
from washedarms.charts import chart_of
from washedarms.ends import keeps_windows, worst_end
from washedarms.errors import BadFate, BadHistory, BadTask, TooGreat
from washedarms.forms import start
from washedarms.links import is_sound
from washedarms.playing import order_of, play
from washedarms.plans import live_plan, worst_course
from washedarms.ranks import soonest
from washedarms.runs import played
from washedarms.ticks import after


def literal_play(task, order, fate):
    """The PLAY, by [611]."""
    spans = literal_begins(task, order, fate)
    states = {}
    for tool, row in enumerate(order[0]):
        state = 0
        for place, thing in enumerate(row):
            if thing[0] == "wash":
                state = task[0][1][thing[1]][0][state][fate[tool][place][1]]
            else:
                state = task[0][0][state][task[1][thing[1]][0][thing[2]][0]]
            states[tool, place] = state
    last = max([end for (tool, place), (_, end) in spans.items() if order[0][tool][place][0] == "step"], default=0)
    rows = []
    for tick in range(last):
        move = sorted((job[0],) + order[0][job[0]][job[1]][:2] for job, (begin, _) in spans.items() if begin == tick)
        late = sorted((job[0], states[job]) for job, (_, end) in spans.items() if end == tick + 1)
        rows.append((tuple(move), tuple(late)))
    return tuple(rows)


def literal_order_of(task, run):
    """The ORDER OF a RUN, by [614], read off its CHART; and its spans."""
    spans, rows, steps = {}, [[] for _ in range(task[0][2])], [0] * len(task[1])
    numbers = {}
    for begin, tool, word, which, end, state in chart_of(task, run):
        if word == "step":
            numbers[begin, tool] = steps[which]
            steps[which] += 1
        if end != -1:
            spans[tool, len(rows[tool])] = (begin, end)
            rows[tool].append((word, which) + ((numbers[begin, tool],) if word == "step" else ()))
    holds = [((), begin, job) for job, (begin, _) in spans.items()]
    for first, (_, end) in spans.items():
        for later, (begin, _) in spans.items():
            between = [other for other, span in spans.items() if end <= span[0] and span[1] <= begin]
            if end <= begin and not between:
                holds.append((first, 0, later))
    return tuple(tuple(row) for row in rows), tuple(sorted(holds))


def random_history(rng, task, most):
    """Some RUN from the START that ends done, or None."""
    run, standing = (), start(task)
    while not literal_done(task, standing):
        rows = literal_rows(task, standing)
        if not rows or len(run) == most:
            return None
        move, ends = rng.choice(rows)
        late, standing = rng.choice(ends)
        run += ((move, late),)
    return run


class PlayTest(unittest.TestCase):
    def test_by_the_words(self):
        for task, order in SOUND_ORDERS:
            for fate in all_fates(task, order)[::9]:
                run = play(task, order, fate)
                self.assertEqual(run, literal_play(task, order, fate))
                if keeps_windows(task, order):
                    self.assertTrue(literal_done(task, played(task, start(task), run)[-1]))
                    self.assertFalse(any(literal_done(task, one) for one in played(task, start(task), run)[:-1]))

    def test_by_hand(self):
        step, wash = ((0, "step", 0),), ((0, "wash", 0),)
        self.assertEqual(play(RUN_TASK, RUN_ORDER, (((2, 0), (1, 0), (1, 0)),)), RUN)
        self.assertEqual(play(RUN_TASK, RUN_ORDER, (((1, 0), (1, 0), (1, 0)),)), (
            (step, ((0, 1),)), (wash, ((0, 0),)), (step, ((0, 0),))))
        self.assertEqual(play(EMPTY_TASK, (((),), ()), ((),)), ())
        self.assertEqual(play(TWO_TASK, HELD_ORDER, (((2, 0), (1, 0), (1, 0)), ((1, 0),))), (
            (step, ()), (((1, "step", 1),), ((0, 0), (1, 0))), (step, ((0, 0),)), (((0, "step", 1),), ((0, 0),))))

    def test_windows_passed_on_the_way(self):
        # Sample 1 waits 2 ticks, its window is 1: the play is told all the same.
        fate = (((2, 0), (1, 0), (1, 0)), ((1, 0),))
        run = play(TWO_TASK, TWO_ORDER, fate)
        self.assertEqual(run, (
            (((0, "step", 0), (1, "step", 1)), ((1, 0),)), ((), ((0, 0),)), (((0, "step", 0),), ((0, 0),)),
            (((0, "step", 1),), ((0, 0),))))

    def test_washes_behind_the_last_step(self):
        lab = (RUN_LAB[0], ((((0,), (0,)), 1, 3),), 1, 1, 0)
        task = (lab, ((((0, (0,), (), 1, 2),), (None,)),) * 2)
        step, other, wash = ("step", 0, 0), ("step", 1, 0), ("wash", 0)
        order = (((wash, step, other, wash, wash),), ())
        run = play(task, order, (((3, 0), (1, 0), (2, 0), (1, 0), (2, 0)),))
        self.assertEqual(run, ((((0, "wash", 0),), ()), ((), ()), ((), ((0, 0),)), (((0, "step", 0),), ((0, 1),)),
                               (((0, "step", 1),), ()), ((), ((0, 1),))))
        # A wash that runs on while the last step ends.
        two = (lab[:2] + (2, 2, 0), (((((0, (0, 1), (), 1, 2),), (None,)),)))
        order = (((step,), (wash, wash)), ())
        rows = play(two, order, (((2, 0),), ((1, 0), (3, 0))))
        self.assertEqual(rows, ((((0, "step", 0), (1, "wash", 0)), ((1, 0),)), (((1, "wash", 0),), ((0, 1),))))
        rows = play(two, order, (((2, 0),), ((2, 0), (3, 0))))
        self.assertEqual(rows, ((((0, "step", 0), (1, "wash", 0)), ()), ((), ((0, 1), (1, 0)))))
        only = (lab, ())
        self.assertEqual(play(only, (((wash, wash),), ()), (((1, 0), (1, 0)),)), ())

    def test_errors(self):
        for wrong in NO_TUPLES + ((), ((),)):
            refused(self, BadFate, {"job": None}, play, RUN_TASK, RUN_ORDER, wrong)
        for place, wrong in ((0, (3, 0)), (1, (1, 1)), (2, (1, False)), (0, None)):
            fate = ((1, 0), (1, 0), (1, 0))
            refused(self, BadFate, {"job": (0, place)}, play, RUN_TASK, RUN_ORDER,
                    (fate[:place] + (wrong,) + fate[place + 1:],))

    def test_great_gaps(self):
        order = (RUN_ORDER[0], (((), 1000, (0, 0)), ))
        run = play(RUN_TASK, order, (((1, 0), (1, 0), (1, 0)),))
        self.assertEqual(len(run), 1003)
        self.assertEqual(run[:1000], (((), ()),) * 1000)


class OrderOfTest(unittest.TestCase):
    def test_by_the_words(self):
        rng = random.Random(550)
        tried = holds = 0
        for task in SMALL_TASKS + (TWO_TASK,):
            for _ in range(12):
                run = random_history(rng, task, 14)
                if run is not None:
                    told = order_of(task, run)
                    self.assertEqual(told, literal_order_of(task, run))
                    tried += 1
                    holds += len([hold for hold in told[1] if hold[0] != ()])
        self.assertGreater(tried, 100)
        self.assertGreater(holds, 100)

    def test_there_and_back(self):
        """The ORDER OF a PLAY begins all steps when the PLAY does, by the same FATE of what ended."""
        for task, order in SOUND_ORDERS:
            if keeps_windows(task, order) and all(row and row[-1][0] == "step" for row in order[0]):
                for fate in all_fates(task, order)[::17]:
                    run = play(task, order, fate)
                    told = order_of(task, run)
                    self.assertEqual(told[0], order[0])
                    self.assertTrue(is_sound(task, told))
                    self.assertEqual(play(task, told, fate), run)

    def test_by_hand(self):
        self.assertEqual(order_of(RUN_TASK, RUN), (RUN_ORDER[0], (
            ((), 0, (0, 0)), ((), 2, (0, 1)), ((), 3, (0, 2)), ((0, 0), 0, (0, 1)), ((0, 1), 0, (0, 2)))))
        self.assertEqual(order_of(EMPTY_TASK, ()), (((),), ()))
        run = play(TWO_TASK, HELD_ORDER, (((2, 0), (1, 0), (1, 0)), ((1, 0),)))
        self.assertEqual(order_of(TWO_TASK, run), (TWO_ORDER[0], (
            ((), 0, (0, 0)), ((), 1, (1, 0)), ((), 2, (0, 1)), ((), 3, (0, 2)), ((0, 0), 0, (0, 1)),
            ((0, 1), 0, (0, 2)), ((1, 0), 0, (0, 1)))))
        # What still runs at the end is not told.
        step, wash = (0, "step", 0), (1, "wash", 0)
        two = ((RUN_LAB[0], ((((0,), (0,)), 1, 3),), 2, 2, 0), ((((0, (0,), (), 1, 2),), (None,)),))
        rows = (((step, wash), ((0, 1),)),)
        self.assertEqual(order_of(two, rows), (((("step", 0, 0),), ()), (((), 0, (0, 0)),)))

    def test_facts(self):
        """[614]: such an ORDER is SOUND, keeps its windows, ends worst behind all rows; so SOONEST is told by one."""
        rng = random.Random(551)
        tried = 0
        while tried < 25:
            task = random_task(rng, samples=2, steps=rng.randint(1, 2), tools=2, washes=1)
            lab, samples = task
            washes = tuple((tuple(row[:1] for row in after_), high, high) for after_, _, high in lab[1])
            samples = tuple((tuple(step[:3] + (step[4],) * 2 for step in steps), windows) for steps, windows in samples)
            task = ((lab[0], washes) + lab[2:], samples)
            run = random_history(rng, task, 10)
            if run is None:
                continue
            tried += 1
            told = order_of(task, run)
            self.assertTrue(is_sound(task, told))
            self.assertTrue(keeps_windows(task, told))
            self.assertEqual(worst_end(task, told), len(run))
            course = worst_course(task, start(task))
            ticks = soonest(task, start(task))
            self.assertEqual(worst_end(task, order_of(task, course)), ticks)
            self.assertLessEqual(ticks, len(run))

    def test_late_steps_without_windows(self):
        """In a TASK without windows SOONEST stays the same if LOW is put up to HIGH."""
        rng = random.Random(552)
        for _ in range(20):
            lab, samples = random_task(rng, samples=2, steps=1, tools=1, washes=1)
            free = tuple((steps, (None,) * len(steps)) for steps, _ in samples)
            late = tuple((tuple(step[:3] + (step[4],) * 2 for step in steps), windows) for steps, windows in free)
            washes = tuple((one, high, high) for one, _, high in lab[1])
            task, other = (lab, free), ((lab[0], washes) + lab[2:], late)
            self.assertEqual(soonest(task, start(task)), soonest(other, start(other)))

    def test_no_histories(self):
        for wrong in NO_TUPLES + ((), RUN[:-1], RUN + (((), ()),), RUN[1:], list(RUN), (None,), RUN[:2] * 2,
                                  RUN[:2] + (((), ()),) * 2, RUN[:2] + (((), ()),) * 3, RUN + RUN):
            refused(self, BadHistory, {"value": wrong}, order_of, RUN_TASK, wrong)
        for wrong in NO_TUPLES + ((((), ()),),):
            refused(self, BadHistory, {"value": wrong}, order_of, EMPTY_TASK, wrong)
        refused(self, BadTask, {"word": "samples", "place": (1,)}, order_of, (DOC_LAB, 0), "x")

    def test_limits(self):
        step, wash = (((0, "step", 0),), ((0, 1),)), (((0, "wash", 0),), ((0, 0),))
        task = (RUN_LAB, ((((0, (0,), (), 1, 2),), (None,)),))
        wait = ((), ())
        self.assertEqual(len(order_of(task, (wash,) * 19 + (step,))[0][0]), 20)
        refused(self, TooGreat, {"most": 20}, order_of, task, (wash,) * 20 + (step,))
        for waits, right in ((1000, True), (1001, False)):
            run = (wait,) * waits + (step,)
            if right:
                self.assertEqual(order_of(task, run), (((("step", 0, 0),),), (((), 1000, (0, 0)),)))
            else:
                refused(self, TooGreat, {"most": 1000}, order_of, task, run)
            refused(self, TooGreat, {"most": 20}, order_of, task, (wash,) * 20 + run)
        # Who waits ends the look ahead of any limit.
        refused(self, BadHistory, {"value": (wash,) * 21}, order_of, task, (wash,) * 21)
        # A wash that began late, but has not ended, is not told.
        two = ((RUN_LAB[0], ((((0,), (0,)), 1, 3),), 2, 2, 0), ((((0, (0,), (), 1, 6),), (None,)),))
        rows = (wait,) * 997 + ((((0, "step", 0),), ()),) + (wait,) * 3 + ((((1, "wash", 0),), ((0, 1),)),)
        self.assertEqual(order_of(two, rows)[1], (((), 997, (0, 0)),))

    def test_worst_courses_of_plans(self):
        for task in SMALL_TASKS:
            course = worst_course(task, start(task))
            if course is not None:
                self.assertEqual(live_plan(task, start(task)) == (), course == ())
                rows, _ = order_of(task, course)
                self.assertLessEqual(sum(len(row) for row in rows), 20)
                self.assertEqual(len(job_names((rows, ()))), sum(len(late) for _, late in course))
        self.assertEqual(after(RUN_TASK, start(RUN_TASK), *RUN[0]), played(RUN_TASK, start(RUN_TASK), RUN)[1])


if __name__ == "__main__":
    unittest.main()
