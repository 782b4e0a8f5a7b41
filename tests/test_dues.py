"""[23], [65], [67], [68]: DUES, claims, what can be kept, least dues."""

import random
import unittest
from unittest import mock

from tests.examples import (
    DOC_LAB, EMPTY_TASK, MANY_STANDINGS, MANY_TRIPLES, NEVER_RIGHT, NO_TUPLES, RUN_TASK, SMALL_TASKS, TASK,
    WINDOW_TASK, WRONG_STANDINGS, changed, literal_broken, literal_can_be_kept, literal_claim, literal_claim_rows,
    literal_done, literal_freed, literal_kept, literal_met, literal_moves, literal_ticks, refused, some_dues,
    some_standings, wash_task)
from washedarms import webs
from washedarms.duepapers import due_plan, due_table
from washedarms.dues import (
    after_claim, can_be_kept, dues_fault, freed, freed_task, keeping_moves, least_due, need_dues)
from washedarms.errors import BadDues, BadLateness, BadMove, BadNumber, BadStanding, BadTask, TooGreat
from washedarms.forms import is_standing, start
from washedarms.ranks import soonest

STEP = (0, (0,), (), 1, 1)
# One tool, two samples of two steps with windows; each step leaves the tool as it was.
TWO_TASK = ((((0,),), (), 1, 1, 0), (((STEP, STEP), (None, 1)),) * 2)


def claims(seed, many, most):
    """Some TASKS with STANDINGS and DUES."""
    rng = random.Random(seed)
    return [(task, standing, dues) for task in SMALL_TASKS for standing in some_standings(task, 3)
            for dues in some_dues(rng, task, standing, many, most)]


class FormTest(unittest.TestCase):
    def test_right_dues(self):
        for task, standing, dues in claims(300, 3, 60):
            self.assertIsNone(dues_fault(task, standing, dues))
            self.assertIs(need_dues(task, standing, dues), dues)
        self.assertIsNone(dues_fault(EMPTY_TASK, start(EMPTY_TASK), ()))
        for due in (-1, 1, 60):
            self.assertIsNone(dues_fault(WINDOW_TASK, start(WINDOW_TASK), (due, 7)))
            self.assertIsNone(dues_fault(WINDOW_TASK, start(WINDOW_TASK), (7, due)))

    def test_wrong_dues(self):
        half = (((2, 0), (0, 0)), ((0, ()),))
        for wrong in NO_TUPLES + ((), (1,), (1, 1, 1), [1, 1]):
            self.check(WINDOW_TASK, half, wrong, -1)
        for wrong in NEVER_RIGHT + (None, 0, 61, (1,)):
            self.check(WINDOW_TASK, half, (-1, wrong), 1)
            self.check(WINDOW_TASK, half, (wrong, "x"), 0)
        # Nothing can be asked of a sample that is done.
        for wrong in (1, 60, 0, True, None):
            self.check(WINDOW_TASK, half, (wrong, 61), 0)
        for wrong in NO_TUPLES + ((1,),):
            self.check(EMPTY_TASK, start(EMPTY_TASK), wrong, -1)
        # A sample without steps is done.
        self.check(TASK, start(TASK), (1, 1, 0), 1)
        self.check(TASK, start(TASK), (1, -1, 0), 2)

    def check(self, task, standing, wrong, place):
        self.assertEqual(dues_fault(task, standing, wrong), place)
        for call, more in ((need_dues, ()), (after_claim, ("x", "y")), (can_be_kept, ()), (keeping_moves, ()),
                           (least_due, ("x",)), (due_plan, ()), (due_table, ())):
            refused(self, BadDues, {"place": place}, call, task, standing, wrong, *more)

    def test_other_errors(self):
        for call, more in ((need_dues, ()), (after_claim, ("x", "y")), (can_be_kept, ()), (keeping_moves, ()),
                           (least_due, ("x",)), (due_plan, ()), (due_table, ())):
            refused(self, BadTask, {"word": "samples", "place": (1,)}, call, (DOC_LAB, 0), "x", "y", *more)
            for wrong in WRONG_STANDINGS:
                with self.assertRaises(BadStanding):
                    call(RUN_TASK, wrong, "y", *more)


class FreedTest(unittest.TestCase):
    def test_by_the_words(self):
        for task, standing, dues in claims(301, 3, 60):
            game, here = literal_freed(task, standing, dues)
            self.assertEqual(freed_task(task, dues), game)
            self.assertEqual(freed(task, standing, dues), (game, here))
            self.assertTrue(is_standing(game, here))

    def test_by_hand(self):
        waits = (((1, 2), (1, 1)), ((0, ()),))
        none = ((STEP, STEP), (None, None))
        some = ((STEP, STEP), (None, 1))
        lab = TWO_TASK[0]
        self.assertEqual(freed(TWO_TASK, waits, (-1, -1)), ((lab, (none, none)), (((1, 0), (1, 0)), ((0, ()),))))
        self.assertEqual(freed(TWO_TASK, waits, (-1, 9)), ((lab, (none, some)), (((1, 0), (1, 1)), ((0, ()),))))
        self.assertEqual(freed(TWO_TASK, waits, (3, -1)), ((lab, (some, none)), (((1, 2), (1, 0)), ((0, ()),))))
        self.assertEqual(freed(TWO_TASK, waits, (3, 9)), (TWO_TASK, waits))


class AfterTest(unittest.TestCase):
    def test_by_the_words(self):
        found = set()
        for task, standing, dues in claims(302, 3, 4):
            game, here = literal_freed(task, standing, dues)
            if literal_broken(game, here):
                for move, late in (((), ()), ("x", "y")):
                    self.assertIsNone(after_claim(task, standing, dues, move, late))
                found.add("broken")
                continue
            for move in literal_moves(game, here):
                for late, behind in literal_ticks(game, here, move):
                    told = after_claim(task, standing, dues, move, late)
                    self.assertEqual(told, literal_claim(game, dues, behind))
                    found.add("lost" if told is None else "kept" if max(told[1], default=-1) < 0 else "on")
        self.assertEqual(found, {"broken", "lost", "kept", "on"})

    def test_by_hand(self):
        first, step = start(RUN_TASK), ((0, "step", 0),)
        running, ended = (((0, 0),), ((0, ("step", 0, 1)),)), (((1, 0),), ((1, ()),))
        self.assertEqual(after_claim(RUN_TASK, first, (4,), step, ()), (running, (3,)))
        self.assertEqual(after_claim(RUN_TASK, first, (4,), step, ((0, 1),)), (ended, (3,)))
        self.assertIsNone(after_claim(RUN_TASK, first, (1,), step, ((0, 1),)))
        self.assertEqual(after_claim(RUN_TASK, first, (-1,), step, ((0, 1),)), (ended, (-1,)))
        last = (((1, 1),), ((0, ()),))
        self.assertEqual(after_claim(RUN_TASK, last, (1,), step, ((0, 0),)), ((((2, 0),), ((0, ()),)), (-1,)))
        self.assertIsNone(after_claim(RUN_TASK, last, (9,), (), ()))
        self.assertEqual(after_claim(RUN_TASK, last, (-1,), (), ()), ((((1, 0),), ((0, ()),)), (-1,)))
        # Ticks go on from done ones, and from kept claims.
        done = (((2, 0),), ((0, ()),))
        self.assertEqual(after_claim(RUN_TASK, done, (-1,), ((0, "wash", 0),), ((0, 0),)), (done, (-1,)))

    def test_errors(self):
        first, step = start(RUN_TASK), ((0, "step", 0),)
        for wrong in NEVER_RIGHT + NO_TUPLES + (((0, "wash", 1),), [step[0]], ((True, "step", 0),)):
            refused(self, BadMove, {"value": wrong}, after_claim, RUN_TASK, first, (4,), wrong, "x")
        for wrong in NEVER_RIGHT + NO_TUPLES + (((0, 0),), [(0, 1)], ((0, True),), ((1, 1),), ((0, 1), (0, 1))):
            refused(self, BadLateness, {"value": wrong}, after_claim, RUN_TASK, first, (4,), step, wrong)
        broken = (((1, 2),), ((0, ()),))
        self.assertIsNone(after_claim(RUN_TASK, broken, (4,), "x", "y"))
        refused(self, BadMove, {"value": "x"}, after_claim, RUN_TASK, broken, (-1,), "x", "y")


class KeptTest(unittest.TestCase):
    def test_by_the_words(self):
        found = set()
        for task, standing, dues in claims(303, 5, 9):
            game, here = literal_freed(task, standing, dues)
            right = literal_can_be_kept(task, standing, dues)
            self.assertIs(can_be_kept(task, standing, dues), right)
            moves = ()
            if not literal_broken(game, here):
                moves = tuple(move for move, ends in literal_claim_rows(game, (here, dues), True)
                              if all(literal_kept(game, behind) for _, behind in ends))
            self.assertEqual(keeping_moves(task, standing, dues), moves)
            found.add((right, literal_broken(game, here), dues == (-1,) * len(dues), len(moves) > 1))
        self.assertGreater(len(found), 5)

    def test_by_hand(self):
        first, step = start(RUN_TASK), ((0, "step", 0),)
        for due, right in ((-1, True), (1, False), (3, False), (4, True), (5, True), (60, True)):
            self.assertIs(can_be_kept(RUN_TASK, first, (due,)), right)
        self.assertEqual(keeping_moves(RUN_TASK, first, (3,)), ())
        self.assertEqual(keeping_moves(RUN_TASK, first, (4,)), (step,))
        self.assertEqual(keeping_moves(RUN_TASK, first, (5,)), ((), step, ((0, "wash", 0),)))
        self.assertEqual(keeping_moves(RUN_TASK, first, (-1,)), ((), step, ((0, "wash", 0),)))
        done = (((2, 0),), ((0, ()),))
        self.assertEqual(keeping_moves(RUN_TASK, done, (-1,)), ((), ((0, "wash", 0),)))
        broken = (((1, 2),), ((0, ()),))
        self.assertIs(can_be_kept(RUN_TASK, broken, (60,)), False)
        self.assertEqual(keeping_moves(RUN_TASK, broken, (60,)), ())
        self.assertIs(can_be_kept(RUN_TASK, broken, (-1,)), True)
        self.assertEqual(keeping_moves(RUN_TASK, broken, (-1,)), ((), step, ((0, "wash", 0),)))
        self.assertIs(can_be_kept(EMPTY_TASK, start(EMPTY_TASK), ()), True)
        self.assertEqual(keeping_moves(EMPTY_TASK, start(EMPTY_TASK), ()), ((),))
        # Two samples on one tool: either of them can be done first, but not both.
        first = start(TWO_TASK)
        for dues, right in (((2, 4), True), ((4, 2), True), ((3, 3), False), ((2, 3), False), ((2, -1), True),
                            ((1, -1), False), ((60, 60), True), ((4, 3), True), ((4, 4), True)):
            self.assertIs(can_be_kept(TWO_TASK, first, dues), right, dues)

    def test_facts(self):
        """[67]: greater DUES, or -1, keep what can be kept; one number for all is kept if SOONEST is at most that."""
        rng = random.Random(304)
        for task, standing, dues in claims(305, 3, 9):
            kept = can_be_kept(task, standing, dues)
            for sample, due in enumerate(dues):
                if kept and due != -1:
                    self.assertTrue(can_be_kept(task, standing, changed(dues, (sample,), rng.randint(due, 60))))
                    self.assertTrue(can_be_kept(task, standing, changed(dues, (sample,), -1)))
        for task in SMALL_TASKS:
            for standing in some_standings(task, 3):
                if literal_done(task, standing):
                    continue
                rank = soonest(task, standing)
                for ticks in (1, 2, 3, 60) + ((rank, max(rank - 1, 1)) if rank else ()):
                    dues = tuple(-1 if rest[0] == len(sample[0]) else ticks
                                 for sample, rest in zip(task[1], standing[0]))
                    # Windows of samples that are done matter no more, so nothing else is freed.
                    self.assertEqual(can_be_kept(task, standing, dues), rank is not None and rank <= ticks)


class LeastDueTest(unittest.TestCase):
    def test_by_going_up(self):
        found = set()
        for task, standing, dues in claims(306, 3, 7):
            for sample, (steps, _) in enumerate(task[1]):
                if standing[0][sample][0] == len(steps):
                    continue
                told = least_due(task, standing, dues, sample)
                right = [due for due in range(1, 13)
                         if literal_can_be_kept(task, standing, changed(dues, (sample,), due))]
                self.assertEqual(told if told is None or told < 13 else None, min(right, default=None))
                for due in {1} | ({told, max(told - 1, 1), min(told + 1, 60)} if told else {20}):
                    self.assertEqual(can_be_kept(task, standing, changed(dues, (sample,), due)),
                                     told is not None and told <= due)
                found.add(told)
        self.assertLessEqual({None, 1, 2, 3, 4, 5, 6}, found)

    def test_by_hand(self):
        first = start(TWO_TASK)
        for dues, sample, right in (((-1, -1), 0, 2), ((9, 2), 0, 4), ((1, 3), 0, 4), ((5, 4), 0, 2),
                                    ((-1, 1), 0, None), ((60, 60), 1, 2), ((2, -1), 1, 4), ((3, 60), 1, 4),
                                    ((4, 60), 1, 2)):
            self.assertEqual(least_due(TWO_TASK, first, dues, sample), right, (dues, sample))
        waits = (((1, 1), (0, 0)), ((0, ()),))
        # Its own windows are asked, whatever its DUE was: it can't let the other one go first.
        self.assertEqual(least_due(TWO_TASK, waits, (-1, 2), 0), None)
        self.assertEqual(least_due(TWO_TASK, waits, (-1, 3), 0), 1)
        self.assertEqual(least_due(TWO_TASK, waits, (-1, 2), 1), 2)
        self.assertEqual(least_due(TWO_TASK, waits, (1, 2), 1), 3)
        broken = (((1, 2), (0, 0)), ((0, ()),))
        for due in (-1, 60):
            self.assertIsNone(least_due(TWO_TASK, broken, (due, -1), 0))
        self.assertEqual(least_due(TWO_TASK, broken, (-1, 7), 1), 2)
        self.assertIsNone(least_due(TWO_TASK, broken, (7, 7), 1))

    def test_up_to_60(self):
        # Steps of just 6 ticks on one tool.
        for counts, right in (((4, 4, 2), 60), ((4, 4, 1), 54), ((4, 4, 3), None)):
            samples = tuple((((0, (0,), (), 6, 6),) * count, (None,) * count) for count in counts)
            task = ((((0,),), (), 1, 1, 0), samples)
            self.assertEqual(soonest(task, start(task)), 6 * sum(counts))
            self.assertEqual(least_due(task, start(task), (-1, -1, -1), 0), 24)
            self.assertEqual(least_due(task, start(task), (-1, 48, 6 * counts[2]), 1), 24 + 6 * counts[2])
            # Whoever is last of all is done with the end of all.
            self.assertEqual(least_due(task, start(task), (24, -1, 24 + 6 * counts[2]), 1), right)

    def test_numbers(self):
        half = (((2, 0), (0, 0)), ((0, ()),))
        for wrong in NEVER_RIGHT + NO_TUPLES + (0, -1, 2, (1,)):
            if type(wrong) is int and wrong == 1:
                continue
            refused(self, BadNumber, {"value": wrong}, least_due, WINDOW_TASK, half, (-1, 4), wrong)
        self.assertEqual(least_due(WINDOW_TASK, half, (-1, 4), 1), 1)
        for wrong in NEVER_RIGHT + (0,):
            refused(self, BadNumber, {"value": wrong}, least_due, EMPTY_TASK, start(EMPTY_TASK), (), wrong)
        refused(self, BadNumber, {"value": 1}, least_due, TASK, start(TASK), (1, -1, 1), 1)


class GreatClaimsTest(unittest.TestCase):
    def test_many_claims(self):
        # The tool that the sample needs is out of use, the others are washed; claims come tick by tick.
        task = wash_task(8, (6, 2, 1), tools=3, named=(0,))
        out = changed(start(task), (1, 0, 1), ("out",))
        met, counts = literal_met((out, (5,)), lambda claim: literal_claim_rows(task, claim))
        self.assertEqual(counts[-1][0], 2318)
        # From the eighth tick on 3136 more come with each one: 19288 by the DUE 11, 22424 by 12.
        self.assertIs(can_be_kept(task, out, (11,)), False)
        refused(self, TooGreat, {"most": 20000}, can_be_kept, task, out, (12,))

    def test_real_limits(self):
        task = MANY_STANDINGS[1]
        refused(self, TooGreat, {"most": 20000}, keeping_moves, task, start(task), (60,))
        refused(self, TooGreat, {"most": 20000}, least_due, task, start(task), (60,), 0)
        many = MANY_TRIPLES[1]
        refused(self, TooGreat, {"most": 200000}, can_be_kept, many, start(many), (60,))
        # From a kept one nothing goes on.
        self.assertIs(can_be_kept(many, start(many), (-1,)), True)
        self.assertEqual(due_plan(many, start(many), (-1,)), ())
        self.assertEqual(len(keeping_moves(many, start(many), (-1,))), 64 + 16)

    def test_by_the_words(self):
        """With lesser limits: claims in the place of standings, a lost claim not met, its triple counted."""
        for task, standing, dues in claims(307, 2, 5)[::7]:
            game, here = literal_freed(task, standing, dues)
            if literal_broken(game, here):
                continue
            _, counts = literal_met((here, dues), lambda claim: literal_claim_rows(game, claim))
            self.check(counts, can_be_kept, task, standing, dues)
            self.check(counts, keeping_moves, task, standing, dues)
            self.check(counts, due_plan, task, standing, dues)
            self.check(counts, due_table, task, standing, dues)

    def test_the_web_of_a_least_due(self):
        for task, standing, dues in claims(308, 2, 5)[::5]:
            for sample, (steps, _) in enumerate(task[1]):
                if standing[0][sample][0] < len(steps):
                    game, here = literal_freed(task, standing, changed(dues, (sample,), 1))
                    if literal_broken(game, here):
                        continue
                    _, counts = literal_met((here, changed(dues, (sample,), -1)), lambda claim: (
                        () if set(claim[1]) == {-1} and claim[0][0][sample][0] == len(steps)
                        else literal_claim_rows(game, claim, True)))
                    self.check(counts, least_due, task, standing, dues, sample)

    def check(self, counts, call, *args):
        nodes, triples = counts[-1]
        for name, most in (("MOST_NODES", nodes), ("MOST_TRIPLES", triples)):
            with mock.patch.object(webs, name, most):
                call(*args)
            with mock.patch.object(webs, name, most - 1):
                if most > 1:
                    refused(self, TooGreat, {"most": most - 1}, call, *args)


if __name__ == "__main__":
    unittest.main()
