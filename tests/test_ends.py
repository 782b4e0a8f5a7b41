"""[608], [609]: WORST ENDS, END PAPERS, windows that are kept."""

import random
import unittest

from tests.examples import (
    EMPTY_TASK, HELD_ORDER, NEVER_RIGHT, NO_TUPLES, RUN_ORDER, RUN_TASK, SOUND_ORDERS, TWO_ORDER, TWO_TASK, all_fates,
    changed, is_plain, job_names, job_of_step, job_span, literal_begins, literal_broken, literal_links, near_values,
    refused)
from washedarms.ends import end_paper, is_end_paper, keeps_windows, worst_end
from washedarms.errors import BadTicks, TooGreat
from washedarms.forms import start
from washedarms.playing import play
from washedarms.ranks import soonest
from washedarms.runs import played
from washedarms.waits import worst_wait


def is_step(order, job):
    """Whether a job is one of a step."""
    return order[0][job[0]][job[1]][0] == "step"


def literal_is_end_paper(task, order, ticks, paper):
    """Whether rows of integers are an END PAPER, by [608]."""
    for first, gap, later in literal_links(task, order):
        ahead = 0 if first == () else paper[first[0]][first[1]]
        if paper[later[0]][later[1]] < ahead + gap + job_span(task, order, later)[1]:
            return False
    return all(paper[job[0]][job[1]] <= ticks for job in job_names(order) if is_step(order, job))


class EndsTest(unittest.TestCase):
    def test_by_all_fates(self):
        for task, order in SOUND_ORDERS:
            ends = {job: 0 for job in job_names(order)}
            for fate in all_fates(task, order):
                for job, (_, end) in literal_begins(task, order, fate).items():
                    ends[job] = max(end, ends[job])
            self.assertEqual(worst_end(task, order),
                             max([end for job, end in ends.items() if is_step(order, job)], default=0))
            # The least integers that keep the LINKS are the latest ends.
            rows = tuple(tuple(ends[tool, place] for place in range(len(row))) for tool, row in enumerate(order[0]))
            self.assertEqual(end_paper(task, order), rows)

    def test_papers(self):
        rng = random.Random(530)
        found = set()
        for task, order in SOUND_ORDERS:
            worst, paper = worst_end(task, order), end_paper(task, order)
            for ticks in (worst, worst + 1, 10 ** 900, worst - 1):
                if ticks >= 0:
                    self.assertIs(is_end_paper(task, order, ticks, paper), ticks >= worst)
            for job in job_names(order):
                for more in (-1, 1, 10 ** 6):
                    other = changed(paper, job, paper[job[0]][job[1]] + more)
                    for ticks in (worst, worst + 1):
                        right = literal_is_end_paper(task, order, ticks, other)
                        self.assertIs(is_end_paper(task, order, ticks, other), right)
                        found.add(right)
                # One less keeps some LINK not, whatever else is told.
                self.assertIs(is_end_paper(task, order, 10 ** 6, changed(
                    paper, job, paper[job[0]][job[1]] - 1)), False)
            for other in near_values(paper, rng, 6) if job_names(order) else ():
                shape = is_plain(other) and [len(row) for row in other if type(row) is tuple] == [
                    len(row) for row in order[0]]
                right = shape and all(type(told) is int for row in other for told in row) and literal_is_end_paper(
                    task, order, worst, other)
                self.assertIs(is_end_paper(task, order, worst, other), right)
        self.assertEqual(found, {True, False})

    def test_by_hand(self):
        self.assertEqual(worst_end(TWO_TASK, TWO_ORDER), 4)
        self.assertEqual(end_paper(TWO_TASK, TWO_ORDER), ((2, 3, 4), (2,)))
        self.assertEqual(worst_end(RUN_TASK, RUN_ORDER), 4)
        self.assertEqual(worst_end(EMPTY_TASK, (((),), ())), 0)
        self.assertEqual(end_paper(EMPTY_TASK, (((),), ())), ((),))
        self.assertIs(is_end_paper(EMPTY_TASK, (((),), ()), 0, ((),)), True)
        # Washes behind the last step count for nothing but their own LINKS.
        order = (((("step", 0, 0), ("wash", 0), ("step", 0, 1), ("wash", 0)),), (((), 900, (0, 3)),))
        self.assertEqual(worst_end(RUN_TASK, order), 4)
        self.assertEqual(end_paper(RUN_TASK, order), ((2, 3, 4, 901),))
        self.assertIs(is_end_paper(RUN_TASK, order, 4, ((2, 3, 4, 901),)), True)
        self.assertIs(is_end_paper(RUN_TASK, order, 4, ((2, 3, 4, 900),)), False)
        self.assertIs(is_end_paper(RUN_TASK, order, 3, ((2, 3, 4, 901),)), False)
        only = ((RUN_TASK[0], ()), (((("wash", 0), ("wash", 0)),), ()))
        self.assertEqual(worst_end(*only), 0)
        self.assertEqual(end_paper(*only), ((1, 2),))

    def test_wrong_values(self):
        paper = ((2, 3, 4), (2,))
        for wrong in NO_TUPLES + (list(paper), paper[:1], paper + ((),), ((2, 3, 4), [2]), ((2, 3, 4), (2, 2)),
                                  ((2, 3), (2,)), ((2, 3, True), (2,)), (None, None), ((2, None, 4), (2,)),
                                  ((2, 3, "4"), (2,)), ((-2, 3, 4), (2,)), ((2, 3, 5), (2,)), ((2, 3, 4), (1,)), ()):
            self.assertIs(is_end_paper(TWO_TASK, TWO_ORDER, 4, wrong), False)
        self.assertIs(is_end_paper(TWO_TASK, TWO_ORDER, 4, paper), True)
        one = changed(changed(paper, (0, 0), 1), (0, 1), 2)
        for wrong in (True, one):
            self.assertIs(is_end_paper(TWO_TASK, TWO_ORDER, 4, wrong), False)
        for wrong in NEVER_RIGHT + (None, -1, (1,)):
            if type(wrong) is not int or wrong < 0:
                refused(self, BadTicks, {"value": wrong}, is_end_paper, TWO_TASK, TWO_ORDER, wrong, "x")


class WindowsTest(unittest.TestCase):
    def test_by_the_words(self):
        found = set()
        for task, order in SOUND_ORDERS:
            right = all(worst_wait(task, order, sample, step)[0] <= window for sample, (_, windows) in enumerate(
                task[1]) for step, window in enumerate(windows) if window is not None)
            self.assertIs(keeps_windows(task, order), right)
            found.add(right)
        self.assertEqual(found, {True, False})
        self.assertIs(keeps_windows(TWO_TASK, TWO_ORDER), False)
        self.assertIs(keeps_windows(TWO_TASK, HELD_ORDER), True)
        self.assertIs(keeps_windows(EMPTY_TASK, (((),), ())), True)

    def test_facts(self):
        """[609]: by any FATE it breaks no window, and each thing that it begins is a MOVE; so SOONEST is not None."""
        tried = 0
        for task, order in SOUND_ORDERS:
            if not keeps_windows(task, order):
                self.assertTrue(any(self.breaks(task, order, fate) for fate in all_fates(task, order)))
                continue
            for fate in all_fates(task, order)[::5]:
                run = play(task, order, fate)
                come = played(task, start(task), run)
                self.assertFalse(any(literal_broken(task, standing) for standing in come))
                self.assertEqual(come[-1][0], tuple((len(steps), 0) for steps, _ in task[1]))
                self.assertLessEqual(len(run), worst_end(task, order))
                tried += 1
            if len(job_names(order)) < 6:
                ticks = soonest(task, start(task))
                self.assertTrue(ticks is not None and ticks <= worst_end(task, order))
        self.assertGreater(tried, 50)

    def breaks(self, task, order, fate):
        """Whether some step begins too late by a FATE."""
        spans = literal_begins(task, order, fate)
        return any(spans[job_of_step(order, sample, step)][0] - spans[job_of_step(order, sample, step - 1)][1] > window
                   for sample, (_, windows) in enumerate(task[1]) for step, window in enumerate(windows)
                   if window is not None)

    def test_many_ways(self):
        """TooGreat of the first step that is looked at; one whose window is not kept ends the look ahead of it."""
        step = (0, (0, 1), (), 1, 2)
        lab = (((0,),), ((((0,),), 1, 2),), 2, 2, 0)
        jobs = [(0, place) for place in range(13)]
        rows = ((("wash", 0),) * 11 + (("step", 1, 0), ("step", 1, 1)), (("step", 0, 0), ("step", 0, 1)))
        net = [((), 0, job) for job in jobs] + [(one, 0, other) for one in jobs for other in jobs if one < other]
        for window, gap, right in ((1, 2, False), (2, 2, None), (None, 2, None), (6, 0, None)):
            task = (lab, (((step, step), (None, window)), ((step, step), (None, 6))))
            order = (rows, tuple(sorted(net + [((1, 0), gap, (1, 1))])))
            if right is None:
                refused(self, TooGreat, {"most": 2000}, keeps_windows, task, order)
                # Steps without a window are not looked at.
                free = (lab, (task[1][0], ((step, step), (None, None))))
                self.assertIs(keeps_windows(free, order), True)
            else:
                self.assertIs(keeps_windows(task, order), right)


if __name__ == "__main__":
    unittest.main()
