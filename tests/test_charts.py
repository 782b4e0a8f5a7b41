"""[305] to [307]: CHARTS."""

import random
import unittest

from tests.examples import (
    DOC_LAB, EMPTY_TASK, NEVER_RIGHT, NO_TUPLES, RUN, RUN_CHART, RUN_LAB, RUN_STANDINGS, RUN_TASK, TASK, changed,
    literal_broken, literal_moves, literal_ticks, random_run, random_tasks)
from washedarms.chartchecks import chart_fault
from washedarms.charts import chart_of, run_of_chart, standing_of_chart
from washedarms.errors import BadChart, BadRun, BadTask, BadTicks
from washedarms.forms import start

# Two samples that share a zone, a third one that doesn't; the first one has a window.
LAB = (((1, 0), (1, None)), ((((0,), (0, 1)), 1, 2),), 2, 2, 1)
TASK_3 = (LAB, ((((0, (0, 1), (0,), 1, 2), (1, (0, 1), (), 1, 1)), (None, 1)), (((0, (0, 1), (0,), 1, 3),), (None,)),
                (((1, (1,), (), 2, 2),), (None,))))
TASKS = [RUN_TASK, EMPTY_TASK, TASK_3, TASK] + random_tasks(52, 12, samples=2, tools=2, zones=1)


def all_runs(task, ticks):
    """All RUNS of so many rows from the START, and their last RUN_STANDINGS."""
    rows = [((), start(task))]
    for _ in range(ticks):
        rows = [(run + ((move, late),), behind) for run, standing in rows if not literal_broken(task, standing)
                for move in literal_moves(task, standing) for late, behind in literal_ticks(task, standing, move)]
    return rows


def literal_chart(run):
    """The CHART of a RUN, by the words of [305]."""
    bars = []
    for begin, (move, _) in enumerate(run):
        for tool, word, which in move:
            ends = [(end + 1, state) for end, (_, late) in enumerate(run) if end >= begin
                    for other, state in late if other == tool]
            bars.append((begin, tool, word, which) + (min(ends) if ends else (-1, -1)))
    return tuple(sorted(bars))


class ThereAndBackTest(unittest.TestCase):
    def check(self, task, run, last):
        chart = literal_chart(run)
        self.assertEqual(chart_of(task, run), chart)
        self.assertEqual(chart_fault(task, len(run), chart), "")
        self.assertEqual(run_of_chart(task, len(run), chart), run)
        self.assertEqual(standing_of_chart(task, len(run), chart), last)
        return chart

    def test_by_hand(self):
        for rows in range(5):
            chart = self.check(RUN_TASK, RUN[:rows], RUN_STANDINGS[rows])
        self.assertEqual(chart, RUN_CHART)
        self.assertEqual(chart_of(RUN_TASK, RUN[:1]), ((0, 0, "step", 0, -1, -1),))
        self.assertEqual(chart_of(RUN_TASK, ()), ())
        self.assertEqual(run_of_chart(RUN_TASK, 2, ()), (((), ()), ((), ())))

    def test_some_runs(self):
        rng = random.Random(53)
        for task in TASKS:
            for _ in range(12):
                run, found = random_run(rng, task, start(task), rng.randint(1, 9))
                self.check(task, run, found[-1])

    def test_long_runs(self):
        for ticks in (199, 200):
            run = (((), ()),) * (ticks - 1) + ((((0, "wash", 0),), ()),)
            last = (((0, 0),) * 3, ((0, ("wash", 0, 1)), (0, ())))
            self.check(TASK_3, run, last)
        self.assertEqual(len(chart_of(RUN_TASK, ((((0, "wash", 0),), ((0, 0),)),) * 300)), 300)

    def test_all_runs_and_no_others(self):
        """Of all values near CHARTS just those are CHARTS that RUNS have."""
        words = set()
        for task, most in ((RUN_TASK, 4), (TASK_3, 2), (TASK, 2)) + tuple(
                (task, 3) for task in random_tasks(54, 6, samples=1, steps=2, states=2, tools=2, washes=1, arms=1)):
            for ticks in range(most + 1):
                right = {}
                for run, last in all_runs(task, ticks):
                    chart = self.check(task, run, last) if len(right) < 200 else literal_chart(run)
                    self.assertNotIn(chart, right)
                    right[chart] = True
                for chart in list(right)[::max(1, len(right) // 40)]:
                    for other in self.near(task, ticks, chart):
                        word = chart_fault(task, ticks, other)
                        self.assertEqual(word == "", other in right, (ticks, other, word))
                        words.add(word)
        self.assertEqual(words, {"", "form", "order", "tool", "sample", "state", "span", "zones", "arms", "window"})

    def near(self, task, ticks, chart):
        """Values near a CHART."""
        found = [chart[:index] + chart[index + 1:] for index in range(len(chart))]
        found += [chart[:index + 1] + chart[index:] for index in range(len(chart))]
        found += [chart[:index] + (chart[index + 1], chart[index]) + chart[index + 2:]
                  for index in range(len(chart) - 1)]
        for index, bar in enumerate(chart):
            for place in (0, 1, 3, 4, 5):
                for more in (-1, 1):
                    found.append(changed(chart, (index, place), bar[place] + more))
            found.append(changed(chart, (index, 2), "wash" if bar[2] == "step" else "step"))
            found.append(changed(chart, (index,), bar[:4] + (-1, -1)))
            for end in range(ticks + 1):
                for state in range(len(task[0][0])):
                    found.append(changed(chart, (index,), bar[:4] + (end, state)))
        for begin in range(ticks):
            for tool in range(task[0][2]):
                for word, many in (("step", len(task[1])), ("wash", len(task[0][1]))):
                    for which in range(many):
                        for end in (-1, begin + 1, ticks):
                            bar = (begin, tool, word, which, end, -1 if end == -1 else 0)
                            found.append(tuple(sorted(chart + (bar,))))
        return found


class FaultTest(unittest.TestCase):
    def check(self, ticks, chart, word, task=RUN_TASK):
        self.assertEqual(chart_fault(task, ticks, chart), word, chart)
        for call in (standing_of_chart, run_of_chart):
            if word == "":
                call(task, ticks, chart)
            else:
                with self.assertRaises(BadChart) as caught:
                    call(task, ticks, chart)
                self.assertEqual(caught.exception.why, word)

    def test_form(self):
        for wrong in NO_TUPLES + (list(RUN_CHART), RUN_CHART[0]):
            self.check(4, wrong, "form")
        for place in range(6):
            for wrong in NEVER_RIGHT + (None,):
                if wrong == "step" and type(wrong) is str and place == 2:
                    continue
                self.check(4, changed(RUN_CHART, (1, place), wrong), "form")
        for bar in ((), RUN_CHART[2][:5], RUN_CHART[2] + (0,), list(RUN_CHART[2]), (4, 0, "step", 0, 5, 0), (-1, 0,
                "step", 0, 4, 0),
                    (3, 1, "step", 0, 4, 0), (3, -1, "step", 0, 4, 0), (3, 0, "rinse", 0, 4, 0), (3, 0, "step", 1, 4,
                            0),
                    (3, 0, "step", -1, 4, 0), (3, 0, "wash", 1, 4, 0), (3, 0, "wash", -1, 4, 0), (3, 0, "step", 0, 3,
                            0),
                    (3, 0, "step", 0, 5, 0), (3, 0, "step", 0, 2, 0), (3, 0, "step", 0, 4, 2), (3, 0, "step", 0, 4, -1),
                    (3, 0, "step", 0, -1, 0), (3, 0, "step", 0, -1, -2), (3, 0, "step", 0, -2, -1), (3, 0, "step", 0,
                            0, 0),
                    (3, 0, "step", 0, -2, -2), (3, 0, "step", 0, 0, -1), (4, 0, "step", 0, -1, -1)):
            self.check(4, RUN_CHART[:2] + (bar,), "form")
            self.check(4, (bar,) + RUN_CHART[1:], "form")
        # A bar of a laboratory without washes, of a task without samples.
        self.check(3, ((0, 0, "wash", 0, -1, -1),), "form", EMPTY_TASK)
        self.check(3, ((0, 0, "step", 0, -1, -1),), "form", EMPTY_TASK)
        self.check(0, (), "", EMPTY_TASK)
        self.check(0, ((0, 0, "step", 0, -1, -1),), "form")

    def test_order(self):
        one, two, three = RUN_CHART
        self.check(4, (one, two, three), "")
        self.check(4, (two, one, three), "order")
        self.check(4, (one, one, two), "order")
        self.check(4, (one, (0, 0, "wash", 0, 1, 0)), "order")
        self.check(4, (one, three, two), "order")
        both = ((0, 0, "wash", 0, 1, 0), (0, 1, "wash", 0, 2, 0))
        self.check(2, both, "", TASK_3)
        self.check(2, both[::-1], "order", TASK_3)

    def test_tool(self):
        one, two, three = RUN_CHART
        self.check(4, (one[:4] + (3, 1), two, three), "tool")
        self.check(4, (one[:4] + (-1, -1), two, three), "tool")
        self.check(4, ((0, 0, "step", 0, 2, 1), (1, 0, "wash", 0, 3, 0)), "tool")

    def test_sample(self):
        # More bars than steps; a tool that isn't let; a bar that has not ended, or ends too late.
        wash = (4, 0, "wash", 0, 5, 0)
        self.check(6, RUN_CHART + (wash, (5, 0, "step", 0, 6, 0)), "sample")
        bars = ((0, 0, "step", 2, 2, 0),)
        self.check(2, bars, "sample", TASK_3)
        self.check(2, ((0, 1, "step", 2, 2, 0),), "", TASK_3)
        first, later = (0, 0, "step", 0, 2, 1), (2, 1, "step", 0, 3, 0)
        self.check(3, (first, later), "", TASK_3)
        self.check(3, (first, (1, 1, "step", 0, 2, 0)), "sample", TASK_3)
        self.check(3, (first[:4] + (-1, -1), later), "sample", TASK_3)
        # A sample without steps has no bars.
        self.check(3, ((0, 1, "step", 1, 2, 0),), "sample", TASK)
        self.check(3, ((0, 1, "step", 0, 2, 1), (2, 0, "step", 0, -1, -1)), "sample", TASK)

    def test_state(self):
        one, two, three = RUN_CHART
        self.check(4, (one, two[:5] + (1,), three), "state")
        self.check(4, (one[:5] + (0,), two, three), "state")
        self.check(4, (one, two, three[:5] + (1,)), "state")
        self.check(3, (one, (2, 0, "step", 0, 3, 0)), "state")
        self.check(3, (one, (2, 0, "step", 0, -1, -1)), "state")
        # The state is the one of the same tool.
        self.check(3, ((0, 0, "step", 1, 2, 1), (2, 1, "step", 2, -1, -1)), "", TASK_3)
        self.check(3, ((0, 1, "step", 1, 2, 1), (2, 1, "step", 2, -1, -1)), "state", TASK_3)
        self.check(4, ((0, 1, "step", 1, 2, 1), (2, 1, "wash", 0, 3, 1), (3, 1, "wash", 0, 4, 0)), "", TASK_3)
        self.check(4, ((0, 1, "wash", 0, 2, 1),), "state", TASK_3)

    def test_span(self):
        for end, word in ((1, ""), (2, ""), (3, "span")):
            self.check(4 if word else end, ((0, 0, "step", 0, end, 1),), word)
        for end, word in ((1, ""), (2, "span")):
            self.check(3, ((0, 0, "wash", 0, end, 0),), word)
        for end, word in ((1, "span"), (2, ""), (3, "span")):
            self.check(3, ((0, 1, "step", 2, end, 0),), word, TASK_3)
        for ticks, word in ((1, ""), (2, "span"), (3, "span")):
            self.check(ticks, ((0, 0, "step", 0, -1, -1),), word)
            self.check(ticks, ((0, 0, "wash", 0, -1, -1),), word, TASK_3)
        self.check(1, ((0, 0, "wash", 0, -1, -1),), "span")

    def test_zones(self):
        one, other = (0, 0, "step", 0, 2, 1), (2, 1, "step", 1, 3, 1)
        self.check(3, (one, other), "", TASK_3)
        self.check(2, (one, (1, 1, "step", 1, -1, -1)), "zones", TASK_3)
        self.check(2, (one, (0, 1, "step", 1, 1, 1)), "zones", TASK_3)
        self.check(2, ((1, 0, "step", 0, -1, -1), (1, 1, "step", 1, -1, -1)), "zones", TASK_3)
        self.check(2, ((0, 0, "step", 1, 1, 1), (1, 1, "step", 0, -1, -1)), "", TASK_3)
        self.check(2, ((0, 0, "step", 1, -1, -1), (1, 1, "step", 2, -1, -1)), "", TASK_3)
        # Not only neighbours share zones.
        self.check(3, ((0, 0, "step", 1, 3, 1), (0, 1, "wash", 0, 1, 0), (2, 1, "step", 0, -1, -1)), "zones", TASK_3)

    def test_arms(self):
        one_arm = (LAB[:3] + (1, 1), TASK_3[1])
        for bars, word in ((((0, 0, "wash", 0, 2, 0), (2, 1, "wash", 0, -1, -1)), ""),
                           (((1, 0, "wash", 0, 3, 0), (2, 1, "wash", 0, -1, -1)), "arms"),
                           (((2, 0, "wash", 0, -1, -1), (2, 1, "wash", 0, -1, -1)), "arms"),
                           (((0, 0, "wash", 0, 2, 0), (1, 1, "wash", 0, 3, 0)), "arms"),
                           (((0, 0, "wash", 0, 2, 0), (0, 1, "wash", 0, 2, 0)), "arms")):
            self.check(3, bars, word, one_arm)
            self.check(3, bars, "", TASK_3)

    def test_window(self):
        first = (0, 0, "step", 0, 1, 1)
        for begin, word in ((1, ""), (2, ""), (3, "window"), (4, "window")):
            self.check(begin + 1, (first, (begin, 1, "step", 0, begin + 1, 0)), word, TASK_3)
        for ticks, word in ((1, ""), (2, ""), (3, ""), (4, "window"), (200, "window")):
            self.check(ticks, (first,), word, TASK_3)
        # No window; a step ahead that has not ended.
        self.check(200, ((0, 0, "step", 1, 1, 1),), "", TASK_3)
        self.check(200, ((199, 0, "step", 0, -1, -1),), "", TASK_3)
        self.check(200, (), "", TASK_3)

    def test_windows_behind_later_steps(self):
        step = (0, (0, 1), (), 1, 6)
        task = ((((0,),), (), 2, 2, 0), (((step,) * 4, (None, None, 1, 3)),))
        one, two, three = (0, 0, "step", 0, 2, 0), (5, 1, "step", 0, 9, 0), (10, 0, "step", 0, 13, 0)
        for ticks, bars, word, rest in (
                (3, (one,), "", (1, 0)), (9, (one,), "", (1, 0)), (9, (one, two), "", (2, 0)),
                (10, (one, two), "", (2, 1)), (11, (one, two), "", (2, 2)), (12, (one, two), "window", None),
                (9, (one, two[:4] + (-1, -1)), "", (1, 0)), (10, (one, two[:4] + (-1, -1)), "", (1, 0)),
                (13, (one, two, three), "", (3, 0)), (15, (one, two, three), "", (3, 2)),
                (17, (one, two, three), "", (3, 4)), (18, (one, two, three), "window", None),
                (12, (one, two, three[:4] + (-1, -1)), "", (2, 0)),
                (14, (one, two, (11, 0, "step", 0, 13, 0)), "window", None)):
            self.check(ticks, bars, word, task)
            if rest is not None:
                self.assertEqual(standing_of_chart(task, ticks, bars)[0], (rest,))

    def test_a_tool_beyond_the_arms(self):
        one_arm = (LAB[:3] + (1, 1), TASK_3[1])
        self.check(3, ((0, 1, "wash", 0, 2, 0), (1, 1, "wash", 0, 3, 0)), "tool", one_arm)
        self.check(3, ((0, 1, "wash", 0, -1, -1), (1, 1, "wash", 0, 3, 0)), "tool", one_arm)

    def test_the_first_rule_is_told(self):
        order = ((2, 0, "wash", 0, 3, 0), (0, 0, "step", 0, 2, 1), (0, 0, "step", 0, 2, 1))
        self.check(4, order, "order")
        self.check(4, order + ((0,),), "form")
        self.check(9, ((0, 0, "step", 0, 5, 0), (1, 0, "step", 0, 9, 1), (2, 0, "step", 0, 9, 1)), "tool")
        self.check(9, ((0, 0, "step", 0, 5, 0), (5, 0, "step", 0, 9, 1), (9 - 1, 0, "step", 0, 9, 1)), "tool")
        self.check(9, ((0, 0, "step", 0, 5, 0), (5, 0, "step", 0, 8, 1), (8, 0, "step", 0, 9, 1)), "sample")
        self.check(9, ((0, 0, "step", 0, 5, 0), (5, 0, "step", 0, 8, 1)), "state")
        self.check(9, ((0, 0, "step", 0, 5, 1),), "span")
        self.check(9, ((0, 0, "step", 0, 4, 1), (1, 1, "step", 1, 3, 1)), "span", TASK_3)
        one_arm = (LAB[:3] + (1, 1), TASK_3[1])
        self.check(9, ((0, 0, "step", 0, 2, 1), (1, 1, "step", 1, 3, 1)), "zones", one_arm)
        self.check(9, ((0, 0, "step", 0, 2, 1), (1, 1, "wash", 0, 3, 0)), "arms", one_arm)
        self.check(9, ((0, 0, "step", 0, 2, 1), (2, 1, "wash", 0, 3, 0)), "window", one_arm)


class ErrorsTest(unittest.TestCase):
    def test_ticks(self):
        for ticks in (0, 1, 199, 200):
            self.assertEqual(chart_fault(RUN_TASK, ticks, ()), "")
            self.assertEqual(standing_of_chart(RUN_TASK, ticks, ()), start(RUN_TASK))
            self.assertEqual(run_of_chart(RUN_TASK, ticks, ()), (((), ()),) * ticks)
        for call in (chart_fault, standing_of_chart, run_of_chart):
            for wrong in NEVER_RIGHT + (-1, 201, None, (), (0,)):
                with self.assertRaises(BadTicks) as caught:
                    call(RUN_TASK, wrong, "x")
                self.assertIs(caught.exception.value, wrong)
            with self.assertRaises(BadTask):
                call((RUN_LAB, 0), -1, "x")

    def test_chart_of(self):
        with self.assertRaises(BadTask):
            chart_of((DOC_LAB, 0), "x")
        for run, index, why in (("x", None, "form"), (list(RUN), None, "form"), ((RUN[0], 0), 1, "form"),
                                ((RUN[0], ((), ((0, 0),))), 1, "lateness"), ((RUN[0], RUN[0]), 1, "move"),
                                (RUN[:2] + (((), ()),) * 3, 4, "broken")):
            with self.assertRaises(BadRun) as caught:
                chart_of(RUN_TASK, run)
            self.assertEqual((caught.exception.index, caught.exception.why), (index, why))


if __name__ == "__main__":
    unittest.main()
