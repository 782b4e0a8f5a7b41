"""[158]: CORNERS."""

import unittest
from itertools import combinations

from tests.examples import (
    DOC_LAB, EMPTY_TASK, HUGE_TASK, NEVER_RIGHT, NO_TUPLES, RUN_TASK, STUCK_TASK, WINDOW_TASK, refused)
from tests.test_slack import TASKS, literal_changed, soonest_of, whats_of
from washedarms.errors import BadTask, BadTicks, BadWhat, TooGreat
from washedarms.stairs import corners


def literal_corners(task, what, other, bounds):
    """For each number of ticks the CORNERS, by looking at all pairs of CHANGES."""
    ticks_of = {(one, two): soonest_of(literal_changed(literal_changed(task, what, one), other, two))
                for one in range(bounds[0] + 1) for two in range(bounds[1] + 1)}

    def told(ticks):
        does = {pair for pair in ticks_of if ticks_of[pair] <= ticks}
        return tuple(sorted(
            (one, two) for one, two in does if (one + 1, two) not in does and (one, two + 1) not in does))

    return told, set(ticks_of.values())


class CornersTest(unittest.TestCase):
    def test_by_the_words(self):
        lengths = set()
        for task in TASKS[::3]:
            whats = whats_of(task)
            for what, other in list(combinations(whats, 2))[:6]:
                for one, two in ((what, other), (other, what)):
                    told, ticks_of = literal_corners(task, one, two, (whats[one], whats[two]))
                    for ticks in {0, 10 ** 6} | {min(number, 100) for number in ticks_of}:
                        self.assertEqual(corners(task, one, two, ticks), told(ticks))
                        lengths.add(len(told(ticks)))
        self.assertLessEqual({0, 1, 2, 3}, lengths)

    def test_by_hand(self):
        first, second = ("step", 0, 0), ("step", 0, 1)
        self.assertEqual(corners(RUN_TASK, first, second, 4), ((0, 0),))
        self.assertEqual(corners(RUN_TASK, first, second, 6), ((0, 2), (1, 1), (2, 0)))
        self.assertEqual(corners(RUN_TASK, first, second, 3), ())
        self.assertEqual(corners(RUN_TASK, first, second, 10 ** 6), ((4, 5),))
        self.assertEqual(corners(RUN_TASK, second, first, 12), ((4, 4), (5, 3)))
        self.assertEqual(corners(RUN_TASK, first, ("wash", 0), 6), ((2, 0),))
        self.assertEqual(corners(RUN_TASK, ("arms",), ("window", 0, 1), 4), ((0, 0),))
        self.assertEqual(corners(STUCK_TASK, first, second, 10 ** 6), ())

    def test_errors_in_their_order(self):
        one, two = ("step", 0, 0), ("arms",)
        for wrong in NO_TUPLES:
            refused(self, BadTask, {"word": "task", "place": ()}, corners, wrong, "x", "y", "z")
            refused(self, BadWhat, {"what": wrong}, corners, RUN_TASK, wrong, "y", "z")
            refused(self, BadWhat, {"what": wrong}, corners, RUN_TASK, one, wrong, "z")
        refused(self, BadTask, {"word": "samples", "place": (1,)}, corners, (DOC_LAB, 0), "x", "y", "z")
        for what in whats_of(WINDOW_TASK):
            refused(self, BadWhat, {"what": what}, corners, WINDOW_TASK, what, what, "z")
        refused(self, BadWhat, {"what": ("wash", 1)}, corners, RUN_TASK, ("wash", 1), ("wash", 1), "z")
        refused(self, BadWhat, {"what": ("arms",)}, corners, EMPTY_TASK, ("arms",), ("arms",), 0)
        for wrong in NEVER_RIGHT + (-1, 10 ** 6 + 1, None):
            refused(self, BadTicks, {"value": wrong}, corners, HUGE_TASK, one, two, wrong)
        refused(self, TooGreat, {"most": 20000}, corners, HUGE_TASK, one, two, 10 ** 6)


if __name__ == "__main__":
    unittest.main()
