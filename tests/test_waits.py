"""[606], [607]: WORST WAITS, KEEPING PAPERS and BREAKING PAPERS."""

import random
import unittest

from tests.examples import (
    EMPTY_TASK, HELD_ORDER, NEVER_RIGHT, NO_TUPLES, RUN_ORDER, RUN_TASK, SOUND_ORDERS, TWO_ORDER, TWO_TASK, all_fates,
    changed, is_plain, job_names, job_of_step, job_span, literal_begins, literal_links, literal_ways, near_values,
    refused)
from washedarms.errors import BadNumber, BadStep, TooGreat
from washedarms.waits import breaking_paper, is_breaking, is_keeping, keeping_paper, worst_wait
from washedarms.ways import way_count


def later_steps(task):
    """The pairs of a sample and a step that has a step ahead of it."""
    return [(sample, step) for sample, (steps, _) in enumerate(task[1]) for step in range(1, len(steps))]


CASES = [(task, order, sample, step) for task, order in SOUND_ORDERS for sample, step in later_steps(task)]


def literal_rise(task, order, job, way, other):
    """The RISE of a WAY to a job and a WAY to the end of another one, by [606]."""
    gaps = {(first, later): gap for first, gap, later in literal_links(task, order)}
    one, two = ((),) + way + (job,), ((),) + other
    rise = sum(gaps[pair] for pair in zip(one, one[1:])) - sum(gaps[pair] for pair in zip(two, two[1:]))
    rise += sum(job_span(task, order, here)[1] for here in way if here not in other)
    return rise - sum(job_span(task, order, here)[0] for here in other if here not in way)


def two_ways(task, order, sample, step):
    """The job of a step, all WAYS to it, and all to the end of the job ahead."""
    ahead, job = job_of_step(order, sample, step - 1), job_of_step(order, sample, step)
    return job, literal_ways(task, order, job), sorted(way + (ahead,) for way in literal_ways(task, order, ahead))


def literal_is_keeping(task, order, sample, step, window, paper):
    """Whether a tuple of pairs of WAYS is a KEEPING PAPER, by [607]."""
    job, ways, others = two_ways(task, order, sample, step)
    if list(paper) != sorted(paper) or sorted(pair[0] for pair in paper) != ways:
        return False
    return all(other in others and literal_rise(task, order, job, way, other) <= window for way, other in paper)


class WorstWaitTest(unittest.TestCase):
    def test_by_all_ways_that_the_jobs_may_last(self):
        found = set()
        for task, order, sample, step in CASES:
            ahead, job = job_of_step(order, sample, step - 1), job_of_step(order, sample, step)
            waits = [spans[job][0] - spans[ahead][1] for spans in (
                literal_begins(task, order, fate) for fate in all_fates(task, order))]
            self.assertEqual(worst_wait(task, order, sample, step)[0], max(waits))
            found.add(max(waits))
        self.assertGreater(len(found), 5)

    def test_by_rises(self):
        for task, order, sample, step in CASES:
            job, ways, others = two_ways(task, order, sample, step)
            rises = [min(literal_rise(task, order, job, way, other) for other in others) for way in ways]
            self.assertEqual(worst_wait(task, order, sample, step), (max(rises), ways[rises.index(max(rises))]))

    def test_the_example(self):
        self.assertEqual(worst_wait(TWO_TASK, TWO_ORDER, 1, 1), (2, ((0, 0), (0, 1))))
        self.assertEqual(worst_wait(TWO_TASK, HELD_ORDER, 1, 1), (1, ((0, 0), (0, 1))))
        self.assertEqual(worst_wait(TWO_TASK, TWO_ORDER, 0, 1), (0, ((0, 0),)))
        self.assertEqual(worst_wait(RUN_TASK, RUN_ORDER, 0, 1), (1, ((0, 0), (0, 1))))
        self.assertEqual(breaking_paper(TWO_TASK, TWO_ORDER, 1, 1, 1), ((0, 0), (0, 1)))


class PapersTest(unittest.TestCase):
    def test_just_one_of_both(self):
        for task, order, sample, step in CASES:
            worst, way = worst_wait(task, order, sample, step)
            job, ways, others = two_ways(task, order, sample, step)
            for window in sorted({0, 1, worst, worst + 1, max(worst - 1, 0), 10 ** 30}):
                keeping = keeping_paper(task, order, sample, step, window)
                breaking = breaking_paper(task, order, sample, step, window)
                self.assertEqual(keeping is None, worst > window)
                self.assertEqual(breaking, way if worst > window else None)
                if keeping is None:
                    self.assertIs(is_breaking(task, order, sample, step, window, breaking), True)
                    continue
                self.assertIs(is_keeping(task, order, sample, step, window, keeping), True)
                self.assertFalse(any(is_breaking(task, order, sample, step, window, one) for one in ways))
                # Each Q is the first one, ascending, of the least RISE.
                self.assertEqual([pair[0] for pair in keeping], ways)
                for one, other in keeping:
                    rises = [literal_rise(task, order, job, one, two) for two in others]
                    self.assertEqual(other, others[rises.index(min(rises))])

    def test_breaking(self):
        for task, order, sample, step in CASES:
            ahead = job_of_step(order, sample, step - 1)
            job, ways, _ = two_ways(task, order, sample, step)
            for way in ways:
                fate = tuple(tuple((job_span(task, order, (tool, place))[(tool, place) in way], 0)
                                   for place in range(len(row))) for tool, row in enumerate(order[0]))
                spans = literal_begins(task, order, fate)
                wait = spans[job][0] - spans[ahead][1]
                for window in (wait - 1, wait, wait + 1):
                    if window >= 0:
                        self.assertIs(is_breaking(task, order, sample, step, window, way), wait > window)

    def test_other_papers(self):
        rng = random.Random(520)
        found = set()
        for task, order, sample, step in CASES[::3]:
            window = worst_wait(task, order, sample, step)[0] + 1
            paper = keeping_paper(task, order, sample, step, window)
            job, ways, others = two_ways(task, order, sample, step)
            papers = [changed(paper, (index, 1), other) for index in range(len(paper)) for other in others]
            papers += [paper[:index] + paper[index + 1:] for index in range(len(paper))]
            papers += [paper[::-1], paper + paper[-1:], paper + ((paper[-1][0], others[-1]),)]
            for other in papers:
                for limit in (window, window - 1, 0):
                    right = literal_is_keeping(task, order, sample, step, limit, other)
                    self.assertIs(is_keeping(task, order, sample, step, limit, other), right)
                    found.add(right)
            for other in near_values(paper, rng, 6):
                if not is_plain(other) or (other not in papers and other != paper):
                    self.assertIs(is_keeping(task, order, sample, step, window, other), False)
            for way in ways[:2]:
                for other in near_values(way, rng, 4):
                    if not is_plain(other) or other not in ways:
                        self.assertIs(is_breaking(task, order, sample, step, 0, other), False)
        self.assertEqual(found, {True, False})

    def test_wrong_values(self):
        paper = keeping_paper(TWO_TASK, TWO_ORDER, 1, 1, 2)
        self.assertEqual(paper, ((((0, 0), (0, 1)), ((1, 0),)), (((1, 0),), ((1, 0),))))
        for wrong in NO_TUPLES + (list(paper), (), paper[:1], paper + paper[1:], (None, None), ((), ()),
                                  changed(paper, (0, 1), ()), changed(paper, (0, 1), ((0, 0), (1, 0))),
                                  changed(paper, (0, 1), ((1, 0), (1, 0))), changed(paper, (0, 0), ((0, 0),)),
                                  changed(paper, (0, 1, 0, 0), True), changed(paper, (0, 1, 0, 1), False),
                                  changed(paper, (0, 0, 1, 1), True), changed(paper, (0,), paper[0] + ((),))):
            self.assertIs(is_keeping(TWO_TASK, TWO_ORDER, 1, 1, 2, wrong), False)
        way = ((0, 0), (0, 1))
        for wrong in NO_TUPLES + (list(way), way[:1], way[1:], way[::-1], (), way + ((0, 2),), ((0, 0), (0, True)),
                                  ((0, 0), [0, 1]), ((0, 0), (0, 1), (1, 0)), ((1, 0),), ((0, 0), (0, 7))):
            self.assertIs(is_breaking(TWO_TASK, TWO_ORDER, 1, 1, 1, wrong), False)
        self.assertIs(is_breaking(TWO_TASK, TWO_ORDER, 1, 1, 1, way), True)
        self.assertIs(is_breaking(TWO_TASK, TWO_ORDER, 1, 1, 2, way), False)

    def test_errors(self):
        calls = ((worst_wait, ()), (keeping_paper, ("x",)), (breaking_paper, ("x",)), (is_keeping, ("x", 0)),
                 (is_breaking, ("x", 0)))
        for call, more in calls:
            for wrong in NEVER_RIGHT + (None, 0, 2, -1, (1,)):
                self.refused_step(call, 1, wrong, more)
                if type(wrong) is not int or wrong != 0:
                    self.refused_step(call, wrong, 1, more)
            self.refused_step(call, 0, 0, more)
            refused(self, BadStep, {"value": (0, 1)}, call, EMPTY_TASK, (((),), ()), 0, 1, *more)
        for call, more in calls[1:]:
            for wrong in NEVER_RIGHT + (None, -1, (1,)):
                if type(wrong) is not int or wrong < 0:
                    refused(self, BadNumber, {"value": wrong}, call, TWO_TASK, TWO_ORDER, 1, 1, wrong, *more[1:])

    def refused_step(self, call, sample, step, more):
        with self.assertRaises(BadStep) as caught:
            call(TWO_TASK, TWO_ORDER, sample, step, *more)
        value = caught.exception.value
        self.assertIs(type(value), tuple)
        self.assertTrue(len(value) == 2 and value[0] is sample and value[1] is step)

    def test_many_ways(self):
        """Washes in a row that hold one another, and two steps behind them."""
        step = (0, (0,), (), 1, 2)
        task = ((((0,),), ((((0,),), 1, 2),), 1, 1, 0), (((step, step), (None, 6)),))
        jobs = [(0, place) for place in range(12)]
        rows = ((("wash", 0),) * 10 + (("step", 0, 0), ("step", 0, 1)),)
        holds = [((), 0, job) for job in jobs[:11]] + [(one, 0, other) for one in jobs[:11] for other in jobs[:11]
                                                       if one < other]
        order = (rows, tuple(sorted(holds)))
        self.assertEqual(way_count(task, order, (0, 11)), 1024)
        self.assertEqual(worst_wait(task, order, 0, 1)[0], 0)
        paper = keeping_paper(task, order, 0, 1, 0)
        self.assertEqual(len(paper), 1024)
        self.assertIs(is_keeping(task, order, 0, 1, 0, paper), True)
        more = (rows, tuple(sorted(holds + [(job, 0, (0, 11)) for job in jobs[:10]])))
        self.assertEqual(way_count(task, more, (0, 11)), 1024 + 1023)
        for call, rest in ((worst_wait, ()), (keeping_paper, (0,)), (breaking_paper, (0,))):
            refused(self, TooGreat, {"most": 2000}, call, task, more, 0, 1, *rest)
        # The judges list no WAYS.
        self.assertIs(is_keeping(task, more, 0, 1, 0, paper), False)
        self.assertIs(is_breaking(task, more, 0, 1, 0, paper[0][0]), False)
        self.assertIs(is_breaking(task, more, 0, 1, 0, ((0, 9),)), False)
        whole = tuple(sorted(paper + tuple((way[:-1], way) for way, _ in paper if len(way) > 1)))
        self.assertIs(is_keeping(task, more, 0, 1, 0, whole), True)
        self.assertIs(is_keeping(task, more, 0, 1, 0, whole[1:]), False)
        self.assertEqual(len(job_names(more)), 12)


if __name__ == "__main__":
    unittest.main()
