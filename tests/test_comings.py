"""[308], [309]: what comes, least RUNS to it, CLOSED LOTS."""

import random
import unittest
from unittest import mock

from tests.examples import (
    DOC_LAB, EMPTY_TASK, MANY_STANDINGS, MANY_TRIPLES, NO_TUPLES, RUN, RUN_STANDINGS, RUN_TASK, SMALL_TASKS, TASK,
    WRONG_STANDINGS, literal_met, literal_rows, near_values, refused, some_standings, wash_task)
from washedarms import comings
from washedarms.comings import closed_lot, least_run, lot_fault, what_comes
from washedarms.errors import BadStanding, BadTask, TooGreat
from washedarms.forms import is_standing, start
from washedarms.numbering import standing_at, standings_number
from washedarms.runs import played
from washedarms.webs import web_row


def literal_coming(task):
    """All STANDINGS that come, ascending."""
    return tuple(sorted(literal_met(start(task), lambda one: literal_rows(task, one))[0]))


def all_least_runs(task):
    """For each STANDING that comes the least one of its shortest RUNS, length by length."""
    found = {start(task): ()}
    layer = dict(found)
    while layer:
        longer = {}
        for one, run in layer.items():
            for move, ends in literal_rows(task, one):
                for late, behind in ends:
                    row = run + ((move, late),)
                    if behind not in found:
                        longer[behind] = min(longer.get(behind, row), row)
        found.update(longer)
        layer = longer
    return found


def literal_lot_fault(task, lot):
    """The word for what a value breaks as a CLOSED LOT, by [308]."""
    if type(lot) is not tuple or not all(is_standing(task, one) for one in lot) or list(lot) != sorted(set(lot)):
        return "form"
    if start(task) not in lot:
        return "start"
    for one in lot:
        if any(behind not in lot for _, ends in literal_rows(task, one) for _, behind in ends):
            return "open"
    return ""


class ComingTest(unittest.TestCase):
    def test_by_the_words(self):
        for task in SMALL_TASKS:
            self.assertEqual(what_comes(task), literal_coming(task))
            self.assertEqual(sorted(web_row(task, start(task))), list(what_comes(task)))

    def test_by_hand(self):
        broken = ((((1, 2),), ((0, ()),)), (((1, 2),), ((1, ()),)))
        self.assertEqual(what_comes(RUN_TASK), tuple(sorted(RUN_STANDINGS + broken + ((((1, 1),), ((1, ()),)),))))
        self.assertEqual(what_comes(EMPTY_TASK), (start(EMPTY_TASK),))

    def test_great_lots(self):
        right, wrong = MANY_STANDINGS
        self.assertEqual(len(what_comes(right)), 18368)
        refused(self, TooGreat, {"most": 20000}, what_comes, wrong)
        # Triples are not counted here.
        self.assertEqual(len(what_comes(MANY_TRIPLES[1])), 1024)
        self.assertIsNone(closed_lot(MANY_TRIPLES[1], start(MANY_TRIPLES[1])))

    def test_just_so_many(self):
        for task in SMALL_TASKS[:12]:
            many = len(what_comes(task))
            for call, more in ((what_comes, ()), (least_run, (start(task),)), (closed_lot, (start(task),))):
                with mock.patch.object(comings, "MOST_NODES", many):
                    call(task, *more)
                with mock.patch.object(comings, "MOST_NODES", many - 1):
                    refused(self, TooGreat, {"most": many - 1}, call, task, *more)
        self.assertEqual(comings.MOST_NODES, 20000)

    def test_errors(self):
        for call in (what_comes, least_run, closed_lot, lot_fault):
            refused(self, BadTask, {"word": "samples", "place": (1,)}, call, (DOC_LAB, 0),
                    *([] if call == what_comes else ["x"]))
        for call in (least_run, closed_lot):
            for wrong in WRONG_STANDINGS:
                with self.assertRaises(BadStanding):
                    call(RUN_TASK, wrong)
            refused(self, BadStanding, {"word": "standing", "place": ()}, call, wash_task(8, (6, 6, 6), high=2), 0)


class RunTest(unittest.TestCase):
    def test_by_listing_runs(self):
        lengths = set()
        for task in SMALL_TASKS:
            runs = all_least_runs(task)
            self.assertEqual(tuple(sorted(runs)), what_comes(task))
            for standing, run in runs.items():
                told = least_run(task, standing)
                self.assertEqual(told, run)
                self.assertEqual(played(task, start(task), told)[-1], standing)
                lengths.add(len(run))
        self.assertGreater(len(lengths), 8)

    def test_by_hand(self):
        for rows, standing in enumerate(RUN_STANDINGS):
            if rows != 2:
                self.assertEqual(least_run(RUN_TASK, standing), RUN[:rows] if rows < 2 else (
                    (((0, "step", 0),), ((0, 1),)),) + RUN[2:rows])
        self.assertEqual(least_run(RUN_TASK, RUN_STANDINGS[2]), ((((0, "step", 0),), ((0, 1),)),))
        self.assertEqual(least_run(EMPTY_TASK, start(EMPTY_TASK)), ())

    def test_what_does_not_come(self):
        for standing in ((((0, 0),), ((0, ("out",)),)), (((2, 0),), ((1, ()),)), (((0, 0),), ((1, ()),))):
            self.assertIsNone(least_run(RUN_TASK, standing))
            self.assertEqual(closed_lot(RUN_TASK, standing), what_comes(RUN_TASK))


class LotTest(unittest.TestCase):
    def test_just_one_of_both(self):
        """[309]: a RUN, or a CLOSED LOT without the STANDING."""
        rng = random.Random(320)
        found = set()
        for task in SMALL_TASKS:
            coming = literal_coming(task)
            others = [standing_at(task, rng.randrange(standings_number(task))) for _ in range(5)]
            for standing in some_standings(task, 3) + tuple(others):
                lot = closed_lot(task, standing)
                self.assertEqual(lot, None if standing in coming else coming)
                self.assertEqual(least_run(task, standing) is None, lot is not None)
                if lot is not None:
                    self.assertEqual(lot_fault(task, lot), "")
                found.add(lot is None)
        self.assertEqual(found, {True, False})

    def test_faults(self):
        rng = random.Random(321)
        words = set()
        for task in SMALL_TASKS:
            lot = what_comes(task)
            self.assertEqual(lot_fault(task, lot), "")
            others = [lot[:index] + lot[index + 1:] for index in range(len(lot))] + [lot[::-1], lot + lot[-1:]]
            others += near_values(lot, rng, 8)
            others.append(tuple(sorted(set(lot + some_standings(task, 3)))))
            for other in others:
                word = literal_lot_fault(task, other)
                self.assertEqual(lot_fault(task, other), word)
                words.add(word)
        self.assertEqual(words, {"", "form", "start", "open"})

    def test_by_hand(self):
        for wrong in NO_TUPLES + ((1,), (None,), ((),), [start(RUN_TASK)], start(RUN_TASK), (start(TASK),)):
            self.assertEqual(lot_fault(RUN_TASK, wrong), "form")
        lot = what_comes(RUN_TASK)
        out = (((0, 0),), ((0, ("out",)),))
        self.assertEqual(lot_fault(RUN_TASK, tuple(sorted(lot + (out,)))), "")
        self.assertEqual(lot_fault(RUN_TASK, lot + (out,)), "form")
        self.assertEqual(lot_fault(RUN_TASK, lot * 2), "form")
        self.assertEqual(lot_fault(RUN_TASK, ()), "start")
        self.assertEqual(lot_fault(RUN_TASK, (out,)), "start")
        self.assertEqual(lot_fault(RUN_TASK, (start(RUN_TASK),)), "open")
        # Nothing goes on from done and broken ones.
        for over in ((((2, 0),), ((1, ()),)), (((1, 2),), ((0, ("out",)),))):
            self.assertEqual(lot_fault(RUN_TASK, tuple(sorted(set(lot + (over,))))), "")


if __name__ == "__main__":
    unittest.main()
