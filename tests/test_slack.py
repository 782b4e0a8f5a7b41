"""[156]: CHANGES, SLACK, and papers at its edge."""

import random
import unittest

from tests.examples import (
    DOC_LAB, EMPTY_TASK, EVEN_TASKS, HUGE_TASK, MANY_STANDINGS, MANY_TRIPLES, NEVER_RIGHT, NO_TUPLES, RUN_TASK,
    SMALL_TASKS, STUCK_TASK, TASK, TWO_TASK, WINDOW_TASK, X_TASKS, changed, is_plain, near_values, refused,
    standings_within)
from washedarms.errors import BadNumber, BadTask, BadTicks, BadWhat, TooGreat
from washedarms.forms import start
from washedarms.lateness import lateness_table
from washedarms.planchecks import is_live_plan
from washedarms.plans import live_plan
from washedarms.ranks import soonest
from washedarms.slack import changed as changed_by
from washedarms.slack import edge, slack_of
from washedarms.tablechecks import is_lateness_table
from washedarms.tasks import is_task

TASKS = tuple(task for task in SMALL_TASKS + EVEN_TASKS + X_TASKS if standings_within(task, start(task), 60))


def whats_of(task):
    """All WHATS of a TASK, each with its bound."""
    found = {("arms",): task[0][3] - 1}
    found.update({("wash", wash): 6 - high for wash, (_, _, high) in enumerate(task[0][1])})
    for sample, (steps, windows) in enumerate(task[1]):
        for number, step in enumerate(steps):
            found["step", sample, number] = 6 - step[4]
            if windows[number] is not None:
                found["window", sample, number] = windows[number]
    return found


def literal_changed(task, what, many):
    """The TASK with a CHANGE, by [156]."""
    if what == ("arms",):
        return changed(task, (0, 3), task[0][3] - many)
    if what[0] == "wash":
        return changed(task, (0, 1, what[1], 2), task[0][1][what[1]][2] + many)
    _, sample, number = what
    if what[0] == "window":
        return changed(task, (1, sample, 1, number), task[1][sample][1][number] - many)
    return changed(task, (1, sample, 0, number, 4), task[1][sample][0][number][4] + many)


def soonest_of(task):
    """SOONEST of the START, a number above all others if there is none."""
    told = soonest(task, start(task))
    return 10 ** 9 if told is None else told


class ChangedTest(unittest.TestCase):
    def test_by_the_words(self):
        for task in TASKS + (TASK, HUGE_TASK):
            for what, bound in whats_of(task).items():
                for many in range(bound + 1):
                    told = changed_by(task, what, many)
                    self.assertEqual(told, literal_changed(task, what, many))
                    self.assertTrue(is_task(told))
                self.assertEqual(changed_by(task, what, 0), task)
                for wrong in NEVER_RIGHT + (-1, bound + 1, None, (0,)):
                    refused(self, BadNumber, {"value": wrong}, changed_by, task, what, wrong)

    def test_wrong_whats(self):
        calls = ((changed_by, ("x",)), (slack_of, ("x",)), (edge, ("x",)))
        for wrong in NEVER_RIGHT + NO_TUPLES + (
                (), ("arms", 0), ("Arms",), ("wash",), ("wash", 1), ("wash", -1), ("wash", True), ("step", 0),
                ("step", 0, 2), ("step", 2, 0), ("step", 0, -1), ("step", 1, 1), ("step", True, 0), ("step", 0, False),
                ("window", 0, 0), ("window", 0, 2), ("window", 1, 0), ("window", 2, 1), ("window", 0, True),
                ["arms"], (b"arms",), ("step", 0, 0, 0), ("tools",), (("arms",),), (None, 0, 0)):
            for call, more in calls:
                refused(self, BadWhat, {"what": wrong}, call, WINDOW_TASK, wrong, *more)
        rng = random.Random(980)
        whats = whats_of(WINDOW_TASK)
        for what in whats:
            for value in near_values(what, rng, 40):
                if is_plain(value) and value in whats:
                    self.assertTrue(is_task(changed_by(WINDOW_TASK, value, 0)))
                else:
                    for call, more in calls:
                        refused(self, BadWhat, {"what": value}, call, WINDOW_TASK, value, *more)
        # A window that is None is none; a sample without steps has none.
        refused(self, BadWhat, {"what": ("window", 0, 1)}, changed_by, changed(RUN_TASK, (1, 0, 1, 1), None),
                ("window", 0, 1), 0)
        refused(self, BadWhat, {"what": ("step", 1, 0)}, changed_by, TASK, ("step", 1, 0), 0)
        refused(self, BadWhat, {"what": ("step", 0, 0)}, changed_by, EMPTY_TASK, ("step", 0, 0), 0)
        refused(self, BadWhat, {"what": ("wash", 0)}, changed_by, EMPTY_TASK, ("wash", 0), 0)


class SlackTest(unittest.TestCase):
    def test_by_the_words(self):
        found = {}
        for task in TASKS:
            for what, bound in whats_of(task).items():
                ticks_of = [soonest_of(literal_changed(task, what, many)) for many in range(bound + 1)]
                # With each lesser CHANGE it is, too.
                self.assertEqual(ticks_of, sorted(ticks_of))
                near = {max(0, min(one + more, 100)) for one in ticks_of for more in (-1, 0)}
                for ticks in {0, 1, 5, 10 ** 6} | near:
                    right = max([many for many in range(bound + 1) if ticks_of[many] <= ticks], default=None)
                    self.assertEqual(slack_of(task, what, ticks), right)
                    self.check_edge(task, what, ticks, right, bound)
                    found[what[0], right is None, right == bound] = True
        self.assertEqual(len(found), 12)

    def check_edge(self, task, what, ticks, right, bound):
        told = edge(task, what, ticks)
        if right is None:
            self.assertIsNone(told)
            return
        slack, plan, table = told
        self.assertEqual(slack, right)
        kept = literal_changed(task, what, slack)
        self.assertTrue(is_live_plan(kept, start(kept), ticks, plan))
        self.assertEqual(plan, live_plan(kept, start(kept)))
        if slack == bound:
            self.assertEqual(table, ())
        else:
            late = literal_changed(task, what, slack + 1)
            self.assertTrue(is_lateness_table(late, start(late), ticks, table))
            self.assertEqual(table, lateness_table(late, start(late), ticks))

    def test_by_hand(self):
        self.assertEqual(slack_of(RUN_TASK, ("step", 0, 0), 4), 0)
        self.assertEqual(slack_of(RUN_TASK, ("step", 0, 0), 6), 2)
        self.assertEqual(slack_of(RUN_TASK, ("step", 0, 0), 10 ** 6), 4)
        self.assertIsNone(slack_of(RUN_TASK, ("step", 0, 0), 3))
        # The wash takes one tick, as long as the second step may wait.
        self.assertEqual(slack_of(RUN_TASK, ("wash", 0), 10 ** 6), 0)
        self.assertEqual(slack_of(RUN_TASK, ("window", 0, 1), 4), 0)
        self.assertEqual(slack_of(RUN_TASK, ("arms",), 4), 0)
        self.assertEqual(edge(RUN_TASK, ("arms",), 4), (0, live_plan(RUN_TASK, start(RUN_TASK)), ()))
        late = changed(RUN_TASK, (0, 1, 0, 2), 2)
        self.assertEqual(edge(RUN_TASK, ("wash", 0), 9), (0, live_plan(RUN_TASK, start(RUN_TASK)),
                                                          lateness_table(late, start(late), 9)))
        self.assertIsNone(edge(STUCK_TASK, ("arms",), 10 ** 6))
        self.assertEqual(slack_of(EMPTY_TASK, ("arms",), 0), 0)
        self.assertEqual(slack_of(TWO_TASK, ("arms",), 10 ** 6), 1)

    def test_errors_in_their_order(self):
        for call in (changed_by, slack_of, edge):
            for wrong in NO_TUPLES:
                refused(self, BadTask, {"word": "task", "place": ()}, call, wrong, "x", "y")
            refused(self, BadTask, {"word": "samples", "place": (1,)}, call, (DOC_LAB, 0), "x", "y")
        for call in (slack_of, edge):
            for wrong in NEVER_RIGHT + NO_TUPLES + (-1, 10 ** 6 + 1, None):
                if type(wrong) is not int or not 0 <= wrong <= 10 ** 6:
                    refused(self, BadTicks, {"value": wrong}, call, RUN_TASK, ("arms",), wrong)
            refused(self, BadTicks, {"value": -1}, call, HUGE_TASK, ("arms",), -1)
            for task, most in ((MANY_STANDINGS[1], 20000), (MANY_TRIPLES[1], 200000), (HUGE_TASK, 20000)):
                refused(self, TooGreat, {"most": most}, call, task, ("step", 0, 0), 9)


if __name__ == "__main__":
    unittest.main()
