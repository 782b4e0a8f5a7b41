"""[61], [62], [33], [35], [36], [205], [207]: RANKS, SOONEST, the WORTH of MOVES."""

import random
import unittest

from tests.examples import (
    DOC_LAB, EMPTY_TASK, LUCK_TASK, NEVER_RIGHT, NO_TUPLES, PAPER_TASK, RUN_STANDINGS, RUN_TASK, SMALL_TASKS,
    STUCK_TASK, WINDOW_TASK, changed, literal_broken, literal_done, literal_in_time, literal_ranks, literal_rows,
    refused, small_tasks, some_standings)
from washedarms.dealings import least_dealing
from washedarms.errors import BadMove, BadStanding, BadTask
from washedarms.forms import start
from washedarms.goodness import is_as_good
from washedarms.likeness import merged, state_classes
from washedarms.needless import lab_with_worst, lab_without, needless_washes
from washedarms.oneform import one_form
from washedarms.ranks import best_moves, move_worth, rank_row, soonest

# Laboratories with washes that may be needless and states that may be like.
WASH_TASKS = small_tasks(210, 12, 250, samples=1, steps=2, states=3, stuffs=1, washes=2, tools=1) + small_tasks(
    211, 6, 250, samples=2, steps=1, states=2, stuffs=1, washes=2, tools=1)


class SoonestTest(unittest.TestCase):
    def test_by_rounds(self):
        found = set()
        for task in SMALL_TASKS:
            for standing in some_standings(task, 5):
                ranks = literal_ranks(task, standing)
                self.assertEqual(rank_row(task, standing), tuple(ranks.items()))
                self.assertEqual(soonest(task, standing), ranks[standing])
                found.add(ranks[standing])
        self.assertLessEqual({None, 0, 1, 2, 3, 5, 8}, found)

    def test_the_least_number_of_ticks(self):
        for task in SMALL_TASKS:
            rank = soonest(task, start(task))
            for ticks in range(12):
                self.assertEqual(literal_in_time(task, start(task), ticks), rank is not None and rank <= ticks)

    def test_by_hand(self):
        self.assertEqual([soonest(RUN_TASK, one) for one in RUN_STANDINGS], [4, 3, 2, 1, 0])
        self.assertEqual(soonest(PAPER_TASK, start(PAPER_TASK)), 2)
        self.assertEqual(soonest(EMPTY_TASK, start(EMPTY_TASK)), 0)
        self.assertEqual(soonest(WINDOW_TASK, start(WINDOW_TASK)), 5)
        self.assertEqual(rank_row(EMPTY_TASK, start(EMPTY_TASK)), ((start(EMPTY_TASK), 0),))

    def test_never(self):
        for task in (STUCK_TASK, LUCK_TASK):
            self.assertIsNone(soonest(task, start(task)))
        for standing in ((((1, 2),), ((0, ()),)), (((1, 2),), ((0, ("out",)),)), (((0, 0),), ((0, ("out",)),)),
                         (((1, 1),), ((1, ()),))):
            self.assertIsNone(soonest(RUN_TASK, standing))
            self.assertEqual(best_moves(RUN_TASK, standing), ())
        self.assertEqual(rank_row(RUN_TASK, (((1, 2),), ((0, ()),))), (((((1, 2),), ((0, ()),)), None),))

    def test_done(self):
        for standing in ((((2, 0),), ((1, ()),)), (((2, 0),), ((0, ("out",)),)), (((2, 0),), ((0, ()),))):
            self.assertEqual(soonest(RUN_TASK, standing), 0)
            self.assertEqual(best_moves(RUN_TASK, standing), ())


class WorthTest(unittest.TestCase):
    def test_by_the_words(self):
        found = set()
        for task in SMALL_TASKS:
            for standing in some_standings(task, 5):
                if literal_done(task, standing) or literal_broken(task, standing):
                    self.assertEqual(best_moves(task, standing), ())
                    for move in ((), "x", ((0, "step", 0),)):
                        refused(self, BadStanding, {"word": "over", "place": ()}, move_worth, task, standing, move)
                    continue
                ranks = literal_ranks(task, standing)
                worths = {}
                for move, ends in literal_rows(task, standing):
                    behind = [ranks[one] for _, one in ends]
                    worths[move] = None if None in behind else 1 + max(behind)
                    self.assertEqual(move_worth(task, standing, move), worths[move])
                known = [worth for worth in worths.values() if worth is not None]
                self.assertEqual(min(known, default=None), ranks[standing])
                best = tuple(move for move in worths if known and worths[move] == min(known))
                self.assertEqual(best_moves(task, standing), best)
                found.add((len(best) > 1, None in worths.values()))
        self.assertEqual(len(found), 4)

    def test_by_hand(self):
        first = start(RUN_TASK)
        self.assertEqual(move_worth(RUN_TASK, first, ()), 5)
        self.assertEqual(move_worth(RUN_TASK, first, ((0, "wash", 0),)), 5)
        self.assertEqual(move_worth(RUN_TASK, first, ((0, "step", 0),)), 4)
        self.assertEqual(best_moves(RUN_TASK, first), (((0, "step", 0),),))
        self.assertIsNone(move_worth(RUN_TASK, RUN_STANDINGS[2], ()))
        self.assertIsNone(move_worth(STUCK_TASK, start(STUCK_TASK), ()))

    def test_errors(self):
        refused(self, BadTask, {"word": "task", "place": ()}, move_worth, 0, "x", "y")
        refused(self, BadStanding, {"word": "standing", "place": ()}, move_worth, RUN_TASK, 0, "y")
        move = ((0, "step", 0),)
        for wrong in NEVER_RIGHT + NO_TUPLES + (((0, "wash", 1),), move * 2, [move[0]], ((0, "step", 0), (0, "wash",
                0)), ((1, "wash", 0),)) + tuple(
                    changed(move, place, bad) for place in ((0,), (0, 0), (0, 2)) for bad in NEVER_RIGHT + (1,)):
            refused(self, BadMove, {"value": wrong}, move_worth, RUN_TASK, start(RUN_TASK), wrong)


class FactsTest(unittest.TestCase):
    def test_states_as_good(self):
        """[33]: a STANDING whose tools have states as good has a SOONEST that isn't greater."""
        tried = 0
        for task in WASH_TASKS + SMALL_TASKS:
            for rests, pairs in some_standings(task, 4):
                ticks = soonest(task, (rests, pairs))
                for tool, (state, job) in enumerate(pairs):
                    for other in range(len(task[0][0])):
                        if other != state and len(job) != 3 and is_as_good(task[0], other, state):
                            better = soonest(task, (rests, changed(pairs, (tool, 0), other)))
                            self.assertTrue(ticks is None or (better is not None and better <= ticks))
                            tried += 1
        self.assertGreater(tried, 50)

    def test_needless_washes_and_results(self):
        """[35]: SOONEST is the same without them."""
        changed_labs = 0
        for task in WASH_TASKS:
            ticks = soonest(task, start(task))
            for lab in (lab_without(task[0], needless_washes(task[0])), lab_with_worst(task[0])):
                self.assertEqual(soonest((lab, task[1]), start(task)), ticks)
                changed_labs += lab != task[0]
        self.assertGreater(changed_labs, 5)

    def test_one_form_and_merged_states(self):
        """[36], [205]: SOONEST is the same over the ONE FORM, and in the MERGED LAB."""
        changed_labs = 0
        for task in WASH_TASKS + SMALL_TASKS:
            ticks = soonest(task, start(task))
            self.assertEqual(soonest((one_form(task[0])[0], task[1]), start(task)), ticks)
            changed_labs += merged(task[0]) != task[0]
            classes = state_classes(task[0])
            for rests, pairs in some_standings(task, 3):
                like = (rests, tuple((classes[state], job) for state, job in pairs))
                self.assertEqual(soonest((merged(task[0]), task[1]), like), soonest(task, (rests, pairs)))
        self.assertGreater(changed_labs, 3)

    def test_dealings(self):
        """[207]: SOONEST of the START of an EVEN TASK is the least number by which a DEALING is LATE."""
        rng = random.Random(212)
        found = set()
        for _ in range(25):
            states, tools = rng.randint(1, 3), rng.randint(1, 2)
            meets = tuple(tuple(None if state and rng.random() < 0.6 else rng.randrange(states) for _ in range(2))
                          for state in range(states))
            washes = tuple((tuple((rng.randrange(states),) for _ in range(states)), 1, rng.randint(1, 2))
                           for _ in range(rng.randint(0, 1)))
            named = tuple(range(tools))
            samples = tuple((((rng.randrange(2), named, (), 1, rng.randint(1, 2)),), (None,))
                            for _ in range(rng.randint(1, 3)))
            task = ((meets, washes, tools, rng.choice((1, tools)), 0), samples)
            told = least_dealing(task)
            self.assertEqual(soonest(task, start(task)), None if told is None else told[0])
            found.add(told is None)
        self.assertEqual(found, {True, False})
        self.assertEqual(least_dealing((DOC_LAB, ()))[0], soonest((DOC_LAB, ()), start((DOC_LAB, ()))))


if __name__ == "__main__":
    unittest.main()
