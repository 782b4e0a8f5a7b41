"""[706], [708], [709]: two STANDINGS compared; the example under "Renamings, covers and partings"."""

import unittest
from unittest import mock

from tests.examples import (
    DOC_LAB, EMPTY_TASK, EVEN_TASKS, GREAT_TASK, HUGE_TASK, MANY_STANDINGS, RUN_BROKEN, RUN_STANDINGS, RUN_TASK,
    SMALL_TASKS, STUCK_TASK, WRONG_STANDINGS, X_TASKS, changed, literal_cover, literal_pair_word, literal_pairs,
    literal_parting, literal_ranks, refused, some_standings, standings_within, task_pairs)
from washedarms import comparing
from washedarms.comparing import compared
from washedarms.covers import cover_fault
from washedarms.errors import BadStanding, BadTask, TooGreat
from washedarms.forms import start
from washedarms.likeness import merged, state_classes
from washedarms.partings import parting_fault
from washedarms.ranks import soonest

PAIRS = task_pairs(710, 60, 60) + task_pairs(711, 40, 30)
FEW_TASKS = [task for task in SMALL_TASKS + EVEN_TASKS if standings_within(task, start(task), 40)]
FIRST, LAST = RUN_STANDINGS[0], RUN_STANDINGS[-1]


def rank_of(task, standing):
    """The RANK of a STANDING, a number above all others if it has none."""
    rank = literal_ranks(task, standing)[standing]
    return 10 ** 9 if rank is None else rank


class ComparedTest(unittest.TestCase):
    def test_by_the_words(self):
        found = {}
        for task, other in PAIRS:
            for one in some_standings(task, 2)[:3]:
                for two in some_standings(other, 2)[:3]:
                    told = compared(task, one, other, two)
                    parting = literal_parting(task, one, other, two)
                    if parting is None:
                        right = ("cover", tuple(sorted(literal_cover(task, one, other, two))))
                    else:
                        right = ("parting", parting)
                    self.assertEqual(told, right)
                    word = literal_pair_word(task, one, other, two)
                    found[told[0], word, told[1] == ()] = found.get((told[0], word, told[1] == ()), 0) + 1
        self.assertEqual(set(found), {("cover", "good", True), ("cover", "live", False), ("parting", "bad", True),
                                      ("parting", "live", False)})
        self.assertGreater(min(found.values()), 20)

    def test_just_one_of_both(self):
        """Each is judged by its own judge, and the SOONEST of both stands beside it."""
        for task, other in PAIRS:
            for one in some_standings(task, 1)[:3]:
                for two in some_standings(other, 1)[:3]:
                    word, rows = compared(task, one, other, two)
                    if word == "cover":
                        self.assertIsNone(cover_fault(task, other, rows))
                        self.assertTrue((one, two) in rows or literal_pair_word(task, one, other, two) == "good")
                        self.assertLessEqual(rank_of(task, one), rank_of(other, two))
                    else:
                        self.assertIsNone(parting_fault(task, other, rows))
                        self.assertTrue((one, two) in [row[:2] for row in rows]
                                        or literal_pair_word(task, one, other, two) == "bad")

    def test_a_task_and_itself(self):
        for task in FEW_TASKS:
            word, rows = compared(task, start(task), task, start(task))
            self.assertEqual(word, "cover")
            if task != EMPTY_TASK and any(sample[0] for sample in task[1]):
                self.assertIn((start(task), start(task)), rows)

    def test_like_states(self):
        """[205]: a TASK and that of the MERGED LAB cover one another."""
        lab = (((1, 0), (2, None), (1, None)), ((((0,), (0,), (0,)), 1, 2),), 1, 1, 0)
        self.assertEqual(state_classes(lab), (0, 1, 1))
        task, other = (lab, RUN_TASK[1]), (merged(lab), RUN_TASK[1])
        for one, two in ((task, other), (other, task)):
            self.assertEqual(compared(one, start(one), two, start(two))[0], "cover")
        states = (((1, 0),), ((1, ()),)), (((1, 0),), ((2, ()),))
        for one, two in (states, states[::-1]):
            self.assertEqual(compared(task, one, task, two)[0], "cover")

    def test_by_hand(self):
        self.assertEqual(compared(RUN_TASK, FIRST, RUN_TASK, LAST), ("parting", ()))
        self.assertEqual(compared(RUN_TASK, LAST, RUN_TASK, FIRST), ("cover", ()))
        self.assertEqual(compared(RUN_TASK, FIRST, RUN_TASK, RUN_BROKEN), ("cover", ()))
        self.assertEqual(compared(RUN_TASK, RUN_BROKEN, RUN_TASK, FIRST), ("parting", ()))
        self.assertEqual(compared(EMPTY_TASK, start(EMPTY_TASK), STUCK_TASK, FIRST), ("cover", ()))
        self.assertEqual(compared(STUCK_TASK, FIRST, RUN_TASK, FIRST)[0], "parting")
        slow = ((((0,),), (), 1, 1, 0), ((((0, (0,), (), 2, 2),), (None,)),))
        fast = changed(slow, (1, 0, 0, 0, 3), 1)
        fast = changed(fast, (1, 0, 0, 0, 4), 1)
        clean = start(slow)
        self.assertEqual(compared(slow, clean, fast, clean),
                         ("parting", ((clean, clean, 1, ((0, "step", 0),), ((), ())),)))

    def test_the_example(self):
        slow, fast = X_TASKS
        self.assertEqual(soonest(slow, start(slow)), 4)
        self.assertIsNone(soonest(fast, start(fast)))
        # A shorter step with a window behind it makes the TASK worse.
        word, rows = compared(fast, start(fast), slow, start(slow))
        self.assertEqual(word, "parting")
        self.assertIsNone(parting_fault(fast, slow, rows))
        # Without that window, [712], it does not; neither does a shorter last step.
        slow, fast = [changed(task, (1, 0, 1, 2), None) for task in X_TASKS]
        self.assertEqual(compared(fast, start(fast), slow, start(slow))[0], "cover")
        long = changed(slow, (1, 0, 0, 2, 4), 3)
        self.assertEqual(compared(slow, start(slow), long, start(long))[0], "cover")

    def test_shorter_steps(self):
        """[712]: a HIGH that is no greater, and LOW of any size up to it, where no window stands behind."""
        many = 0
        for task in FEW_TASKS:
            for sample, (steps, windows) in enumerate(task[1]):
                for number, step in enumerate(steps):
                    if number + 1 < len(steps) and windows[number + 1] is not None:
                        continue
                    for high in range(1, step[4] + 1):
                        for low in {1, high}:
                            short = changed(task, (1, sample, 0, number), step[:3] + (low, high))
                            self.assertEqual(compared(short, start(short), task, start(task))[0], "cover")
                            many += 1
        self.assertGreater(many, 60)


class ErrorsTest(unittest.TestCase):
    def test_errors_in_their_order(self):
        wrong = (DOC_LAB, 0)
        refused(self, BadTask, {"word": "samples", "place": (1,)}, compared, wrong, "x", "y", "z")
        refused(self, BadTask, {"word": "samples", "place": (1,)}, compared, RUN_TASK, FIRST, wrong, "z")
        for value in WRONG_STANDINGS:
            with self.assertRaises(BadStanding):
                compared(RUN_TASK, value, "y", "z")
            with self.assertRaises(BadStanding):
                compared(RUN_TASK, FIRST, RUN_TASK, value)
        with self.assertRaises(BadStanding):
            compared(HUGE_TASK, start(HUGE_TASK), HUGE_TASK, "z")

    def test_too_many_pairs(self):
        for task in (HUGE_TASK, GREAT_TASK, MANY_STANDINGS[0]):
            refused(self, TooGreat, {"most": 5000}, compared, task, start(task), task, start(task))
        for task, other in PAIRS[:30]:
            many = len(literal_pairs(task, start(task), other, start(other)))
            with mock.patch.object(comparing, "MOST_PAIRS", many):
                compared(task, start(task), other, start(other))
            with mock.patch.object(comparing, "MOST_PAIRS", many - 1):
                if many > 1:
                    refused(self, TooGreat, {"most": many - 1}, compared, task, start(task), other, start(other))

    def test_five_thousand_pairs(self):
        # A tool that is washed for 1 to HIGH ticks, beside another one: so many pairs of what a wash has run.
        counts = []
        for high, washes in ((6, 1), (6, 2), (6, 3)):
            lab = (((0,),) * 2, ((((0, 1), (0, 1)), 1, high),) * washes, 1, 1, 0)
            for named in ((1, 6), (1, 3)):
                task = (lab, (((((0, (0,), (), 1, 1),) + ((0, (0,), (), 1, named[1]),)), (None, None)),))
                pairs = len(literal_pairs(task, start(task), task, start(task)))
                counts.append(pairs)
                if pairs > 5000:
                    refused(self, TooGreat, {"most": 5000}, compared, task, start(task), task, start(task))
                else:
                    self.assertEqual(compared(task, start(task), task, start(task))[0], "cover")
        self.assertLess(min(counts), 5000)
        self.assertGreater(max(counts), 5000)


if __name__ == "__main__":
    unittest.main()
