"""[704], [705]: good, bad and live pairs; COVERS are judged."""

import random
import unittest

from tests.examples import (
    DOC_LAB, EMPTY_TASK, LEAST_LAB, MANY_STANDINGS, NO_TUPLES, PAPER_TASK, RUN_BROKEN, RUN_STANDINGS, RUN_TASK,
    STUCK_TASK, WRONG_STANDINGS, changed, literal_answers, literal_comings, literal_cover, literal_pair_word,
    literal_rows, near_values, refused, some_standings, task_pairs)
from washedarms.covers import cover_fault, pair_word
from washedarms.errors import BadStanding, BadTask, TooGreat
from washedarms.forms import is_standing, start

PAIRS = task_pairs(710, 60, 60)
FIRST, SECOND, THIRD, FOURTH, LAST = RUN_STANDINGS
SAME = tuple(sorted((one, one) for one in RUN_STANDINGS[:4]))


def literal_fault(task, other, cover):
    """The first fault of a COVER, by [705] and the interface."""
    if type(cover) is not tuple:
        return (-1, "form")
    for index, row in enumerate(cover):
        if type(row) is not tuple or len(row) != 2 or not is_standing(task, row[0]) or not is_standing(other, row[1]):
            return (index, "form")
        if index and not cover[index - 1] < row:
            return (index, "order")
    words = [literal_pair_word(task, one, other, two) for one, two in cover]
    if "bad" in words:
        return (words.index("bad"), "bad")
    table = set(cover)
    for index, (one, two) in enumerate(cover):
        if words[index] == "live" and not all(
                literal_answers(task, one, other, table, [right for _, right in ends])
                for _, ends in literal_rows(other, two)):
            return (index, "move")
    return None


class PairTest(unittest.TestCase):
    def test_by_the_words(self):
        found = set()
        for task, other in PAIRS:
            for one in some_standings(task, 4):
                for two in some_standings(other, 4):
                    told = pair_word(task, one, other, two)
                    self.assertEqual(told, literal_pair_word(task, one, other, two))
                    found.add(told)
        self.assertEqual(found, {"good", "bad", "live"})

    def test_by_hand(self):
        for one, two, told in ((FIRST, FIRST, "live"), (LAST, FIRST, "good"), (FIRST, LAST, "bad"),
                               (LAST, LAST, "good"), (RUN_BROKEN, RUN_BROKEN, "good"), (RUN_BROKEN, FIRST, "bad"),
                               (FIRST, RUN_BROKEN, "good"), (RUN_BROKEN, LAST, "bad"), (LAST, RUN_BROKEN, "good")):
            self.assertEqual(pair_word(RUN_TASK, one, RUN_TASK, two), told)
        self.assertEqual(pair_word(EMPTY_TASK, start(EMPTY_TASK), RUN_TASK, FIRST), "good")
        self.assertEqual(pair_word(RUN_TASK, FIRST, EMPTY_TASK, start(EMPTY_TASK)), "bad")

    def test_errors_in_their_order(self):
        wrong = (DOC_LAB, 0)
        refused(self, BadTask, {"word": "samples", "place": (1,)}, pair_word, wrong, "x", "y", "z")
        refused(self, BadTask, {"word": "samples", "place": (1,)}, pair_word, RUN_TASK, FIRST, wrong, "z")
        for value in WRONG_STANDINGS:
            with self.assertRaises(BadStanding):
                pair_word(RUN_TASK, value, wrong, "z")
            with self.assertRaises(BadStanding):
                pair_word(RUN_TASK, FIRST, RUN_TASK, value)
        refused(self, BadTask, {"word": "samples", "place": (1,)}, cover_fault, wrong, "x", "y")
        refused(self, BadTask, {"word": "task", "place": ()}, cover_fault, RUN_TASK, "x", "y")


class FaultTest(unittest.TestCase):
    def test_right_covers(self):
        many = 0
        for task, other in PAIRS[::2]:
            for one in some_standings(task, 2)[:3]:
                for two in some_standings(other, 2)[:3]:
                    cover = literal_cover(task, one, other, two)
                    self.assertIsNone(cover_fault(task, other, tuple(sorted(cover))))
                    many += len(cover) > 1
                    good = [(left, right) for left in literal_comings(task)[-5:] for right in literal_comings(other)
                            if literal_pair_word(task, left, other, right) == "good"]
                    self.assertIsNone(cover_fault(task, other, tuple(sorted(cover | set(good[:20])))))
        self.assertGreater(many, 50)

    def test_other_values(self):
        rng = random.Random(711)
        words = set()
        for task, other in PAIRS[::2]:
            cover = tuple(sorted(literal_cover(task, start(task), other, start(other))))
            extra = tuple((rng.choice(some_standings(task, 4)), rng.choice(some_standings(other, 4)))
                          for _ in range(3))
            values = [cover + extra, tuple(sorted(set(cover + extra[:1]))), extra, tuple(sorted(set(extra))),
                      cover[1:], cover[:-1], cover + cover[-1:]]
            for value in values + (near_values(cover, rng, 6) if cover else []):
                fault = literal_fault(task, other, value)
                self.assertEqual(cover_fault(task, other, value), fault)
                words.add(fault and fault[1])
        self.assertEqual(words, {None, "form", "order", "bad", "move"})

    def test_by_hand(self):
        for task in (RUN_TASK, PAPER_TASK, EMPTY_TASK, STUCK_TASK):
            self.assertIsNone(cover_fault(task, RUN_TASK, ()))
        self.assertIsNone(cover_fault(RUN_TASK, STUCK_TASK, ()))
        # Each STANDING that comes beside itself; those from which some window is broken are needed, too.
        same = tuple((one, one) for one in sorted(literal_comings(RUN_TASK)))
        self.assertIsNone(cover_fault(RUN_TASK, RUN_TASK, same))
        place = same.index((FOURTH, FOURTH))
        self.assertEqual(cover_fault(RUN_TASK, RUN_TASK, same[:place] + same[place + 1:])[1], "move")
        for wrong in NO_TUPLES + (list(same),):
            self.assertEqual(cover_fault(RUN_TASK, RUN_TASK, wrong), (-1, "form"))
            self.assertEqual(cover_fault(RUN_TASK, RUN_TASK, (wrong,)), (0, "form"))
            self.assertEqual(cover_fault(RUN_TASK, RUN_TASK, ((wrong, FIRST),)), (0, "form"))
            self.assertEqual(cover_fault(RUN_TASK, RUN_TASK, ((FIRST, wrong),)), (0, "form"))
        for row in ((FIRST,), (FIRST,) * 3, [FIRST, FIRST], (FIRST, start(EMPTY_TASK), 0)):
            self.assertEqual(cover_fault(RUN_TASK, RUN_TASK, (row,)), (0, "form"))
        # What is wrong by itself is told ahead of what is wrong beside the others.
        self.assertEqual(cover_fault(RUN_TASK, RUN_TASK, ((FIRST, LAST), (FIRST, LAST))), (1, "order"))
        self.assertEqual(cover_fault(RUN_TASK, RUN_TASK, ((FIRST, FIRST), (FIRST, LAST))), (1, "bad"))
        self.assertEqual(cover_fault(RUN_TASK, RUN_TASK, ((FIRST, FIRST), (LAST, LAST))), (0, "move"))
        self.assertIsNone(cover_fault(RUN_TASK, RUN_TASK, ((FIRST, RUN_BROKEN), (LAST, LAST))))
        truths = changed(same, (1, 0, 0, 0, 0), True)
        self.assertEqual(cover_fault(RUN_TASK, RUN_TASK, truths), (1, "form"))

    def test_many_rows(self):
        task = MANY_STANDINGS[1]
        lab = (LEAST_LAB[0],) + task[0][1:]
        self.assertEqual(len(lab[1]), 3)
        done = (((1, 0),), ((0, ()), (0, ())))
        # All STANDINGS of a TASK beside one that is done.
        rows = tuple((done, one) for one in sorted(literal_many(task)))
        self.assertGreater(len(rows), 20001)
        self.assertIsNone(cover_fault(task, task, rows[:20000]))
        refused(self, TooGreat, {"most": 20000}, cover_fault, task, task, rows[:20001])
        # It comes ahead of what is wrong with a row, behind what is wrong with the TASKS.
        refused(self, TooGreat, {"most": 20000}, cover_fault, task, task, (0,) * 20001)
        refused(self, BadTask, {"word": "task", "place": ()}, cover_fault, task, 0, (0,) * 20001)
        self.assertEqual(cover_fault(task, task, (0,) * 20000), (0, "form"))
        self.assertEqual(cover_fault(task, task, rows[:19999] + rows[:1]), (19999, "order"))


def literal_many(task):
    """Many STANDINGS of a TASK of one sample with one step, on two tools that may be washed."""
    jobs = [()] + [("wash", wash, gone) for wash, (_, _, high) in enumerate(task[0][1]) for gone in range(1, high)]
    pairs = [(state, job) for state in range(len(task[0][0])) for job in jobs]
    return [(((done, 0),), (one, two)) for done in (0, 1) for one in pairs for two in pairs]


if __name__ == "__main__":
    unittest.main()
