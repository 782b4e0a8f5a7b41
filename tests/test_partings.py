"""[707]: PARTINGS are judged."""

import random
import unittest

from tests.examples import (
    DOC_LAB, EMPTY_TASK, NO_TUPLES, PAPER_TASK, RUN_BROKEN, RUN_STANDINGS, RUN_TASK, STUCK_TASK, changed, is_plain,
    literal_pair_word, literal_parting, literal_rows, near_values, refused, some_standings, task_pairs)
from washedarms.errors import BadTask, TooGreat
from washedarms.forms import is_standing
from washedarms.partings import parting_fault

PAIRS = task_pairs(710, 60, 60)
FIRST, SECOND, THIRD, FOURTH, LAST = RUN_STANDINGS
STEP = ((0, "step", 0),)
# One sample with one step, but of 1 tick in the other TASK alone.
SLOW_TASK = ((((0,),), (), 1, 1, 0), ((((0, (0,), (), 2, 2),), (None,)),))
FAST_TASK = ((((0,),), (), 1, 1, 0), ((((0, (0,), (), 1, 1),), (None,)),))
CLEAN = (((0, 0),), ((0, ()),))
ROW = (CLEAN, CLEAN, 1, STEP, ((), ()))


def literal_fault(task, other, parting):
    """The first fault of a PARTING, by [707] and the interface."""
    if type(parting) is not tuple:
        return (-1, "form")
    for index, row in enumerate(parting):
        if type(row) is not tuple or len(row) != 5 or not is_standing(task, row[0]) or not is_standing(other, row[1]):
            return (index, "form")
        one, two, rank, move, answers = row
        if type(rank) is not int or rank < 1 or type(move) is not tuple or type(answers) is not tuple:
            return (index, "form")
        live = literal_pair_word(task, one, other, two) == "live"
        if live:
            lefts = literal_rows(task, one)
            if not is_plain(move) or move not in dict(literal_rows(other, two)) or not is_plain(answers):
                return (index, "form")
            if len(lefts) != len(answers) or not all(
                    answer in dict(ends) for (_, ends), answer in zip(lefts, answers)):
                return (index, "form")
        if index and not parting[index - 1][:2] < (one, two):
            return (index, "order")
        if not live:
            return (index, "over")
    ranks = {row[:2]: row[2] for row in parting}
    for index, (one, two, rank, move, answers) in enumerate(parting):
        for (_, ends), answer in zip(literal_rows(task, one), answers):
            for _, right in dict(literal_rows(other, two))[move]:
                pair = (dict(ends)[answer], right)
                if literal_pair_word(task, pair[0], other, pair[1]) != "bad" and not ranks.get(pair, rank) < rank:
                    return (index, "answer")
    return None


class FaultTest(unittest.TestCase):
    def test_by_the_words(self):
        rng = random.Random(720)
        words, lengths = set(), set()
        for task, other in PAIRS[::2]:
            for one in some_standings(task, 2)[:3]:
                for two in some_standings(other, 2)[:3]:
                    parting = literal_parting(task, one, other, two)
                    if parting is None:
                        continue
                    self.assertIsNone(parting_fault(task, other, parting))
                    lengths.add(len(parting))
                    over = (one, two, 1, (), ())
                    values = [parting + (over,), tuple(sorted(parting + (over,))), parting[1:], parting[:-1]]
                    values += [changed(parting, (index, 2), row[2] + more) for index, row in enumerate(parting)
                               for more in (-1, 1)][:6]
                    for value in values + (near_values(parting, rng, 4) if parting else []):
                        fault = literal_fault(task, other, value)
                        self.assertEqual(parting_fault(task, other, value), fault)
                        words.add(fault and fault[1])
        self.assertEqual(words, {None, "form", "order", "over", "answer"})
        self.assertGreater(max(lengths), 8)

    def test_by_hand(self):
        for task in (RUN_TASK, PAPER_TASK, EMPTY_TASK, STUCK_TASK):
            self.assertIsNone(parting_fault(task, RUN_TASK, ()))
        # Behind a tick the one is running still, the other one is done: that is bad.
        self.assertIsNone(parting_fault(SLOW_TASK, FAST_TASK, (ROW,)))
        self.assertIsNone(parting_fault(SLOW_TASK, FAST_TASK, (changed(ROW, (2,), 10 ** 30),)))
        self.assertEqual(parting_fault(SLOW_TASK, FAST_TASK, (changed(ROW, (3,), ()),)), (0, "answer"))
        self.assertEqual(parting_fault(FAST_TASK, SLOW_TASK, (changed(ROW, (4,), ((), ((0, 0),))),)), (0, "answer"))
        for wrong in NO_TUPLES + ([ROW],):
            self.assertEqual(parting_fault(SLOW_TASK, FAST_TASK, wrong), (-1, "form"))
            self.assertEqual(parting_fault(SLOW_TASK, FAST_TASK, (wrong,)), (0, "form"))
            for place in range(5):
                if (place, wrong) != (2, 1):
                    self.assertEqual(parting_fault(SLOW_TASK, FAST_TASK, (changed(ROW, (place,), wrong),)), (0, "form"))
        for rank in (True, 0, -1, None, "1"):
            self.assertEqual(parting_fault(SLOW_TASK, FAST_TASK, (changed(ROW, (2,), rank),)), (0, "form"))
        for answers in ((), ((),), ((), (), ()), ((), ((0, 0),)), [(), ()], ((), [])):
            self.assertEqual(parting_fault(SLOW_TASK, FAST_TASK, (changed(ROW, (4,), answers),)), (0, "form"))
        for move in (((0, "wash", 0),), ((True, "step", 0),), [STEP[0]], STEP + STEP):
            self.assertEqual(parting_fault(SLOW_TASK, FAST_TASK, (changed(ROW, (3,), move),)), (0, "form"))
        self.assertEqual(parting_fault(SLOW_TASK, FAST_TASK, (ROW, ROW)), (1, "order"))
        self.assertEqual(parting_fault(SLOW_TASK, FAST_TASK, (ROW[:4], ROW)), (0, "form"))
        self.assertEqual(parting_fault(SLOW_TASK, FAST_TASK, (ROW + (0,),)), (0, "form"))

    def test_pairs_that_are_over(self):
        # Any tuples may stand in the place of MOVE and ANSWERS there.
        for one, two in ((LAST, FIRST), (FIRST, LAST), (RUN_BROKEN, FIRST), (FIRST, RUN_BROKEN), (LAST, LAST)):
            for more in (((), ()), (("x",), (1, 2))):
                self.assertEqual(parting_fault(RUN_TASK, RUN_TASK, ((one, two, 1) + more,)), (0, "over"))
            self.assertEqual(parting_fault(RUN_TASK, RUN_TASK, ((one, two, 1, [], ()),)), (0, "form"))
            self.assertEqual(parting_fault(RUN_TASK, RUN_TASK, ((one, two, 1, (), None),)), (0, "form"))
            self.assertEqual(parting_fault(RUN_TASK, RUN_TASK, ((one, two, 0, (), ()),)), (0, "form"))
        rows = ((LAST, LAST, 1, (), ()), (LAST, FIRST, 1, (), ()))
        self.assertEqual(parting_fault(RUN_TASK, RUN_TASK, rows), (0, "over"))
        self.assertEqual(parting_fault(RUN_TASK, RUN_TASK, rows[1:] + rows[1:]), (0, "over"))

    def test_errors_in_their_order(self):
        wrong = (DOC_LAB, 0)
        refused(self, BadTask, {"word": "samples", "place": (1,)}, parting_fault, wrong, "x", "y")
        refused(self, BadTask, {"word": "task", "place": ()}, parting_fault, RUN_TASK, "x", (0,) * 20001)
        refused(self, TooGreat, {"most": 20000}, parting_fault, RUN_TASK, RUN_TASK, (0,) * 20001)
        self.assertEqual(parting_fault(RUN_TASK, RUN_TASK, (0,) * 20000), (0, "form"))


if __name__ == "__main__":
    unittest.main()
