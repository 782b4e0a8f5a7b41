"""[701]: RENAMINGS."""

import random
import unittest

from tests.examples import (
    DOC_LAB, EMPTY_TASK, GREAT_TASK, NEVER_RIGHT, NO_TUPLES, RUN_TASK, SMALL_TASKS, TASK, TWO_TASK, WRONG_STANDINGS,
    all_renamings, changed, is_plain, literal_broken, literal_moves, literal_ticks, near_values, random_tasks, refused,
    renamed_late_literally, renamed_move_literally, renamed_standing_literally, renamed_task_literally, some_standings)
from washedarms.errors import BadLateness, BadMove, BadRenaming, BadStanding, BadTask, Broken
from washedarms.forms import is_standing, start
from washedarms.moves import is_move
from washedarms.ranks import soonest
from washedarms.renamings import (
    is_renaming, joined_renaming, renamed_lateness, renamed_move, renamed_standing, renamed_task, undone_renaming)
from washedarms.tasks import is_task
from washedarms.ticks import after, is_lateness

TASKS = SMALL_TASKS[6:20] + (TWO_TASK, TASK) + tuple(random_tasks(580, 10, samples=3, steps=2, tools=3, arms=2))


class RenamedTest(unittest.TestCase):
    def test_by_the_words(self):
        rng = random.Random(581)
        for task in TASKS:
            renamings = all_renamings(task)
            for renaming in rng.sample(renamings, min(4, len(renamings))):
                self.assertIs(is_renaming(task, renaming), True)
                other = renamed_task(task, renaming)
                self.assertEqual(other, renamed_task_literally(task, renaming))
                self.assertTrue(is_task(other))
                for standing in some_standings(task, 3)[:6] if len(task[1]) < 3 else (start(task),):
                    self.check_standing(task, other, standing, renaming, rng)

    def check_standing(self, task, other, standing, renaming, rng):
        """What is renamed belongs to the renamed TASK, and after leads from renamed things to what is renamed."""
        told = renamed_standing(task, standing, renaming)
        self.assertEqual(told, renamed_standing_literally(standing, renaming))
        self.assertTrue(is_standing(other, told))
        if literal_broken(task, standing):
            refused(self, Broken, {}, renamed_move, task, standing, "x", "y")
            refused(self, Broken, {}, renamed_lateness, task, standing, "x", "y", "z")
            return
        moves = literal_moves(task, standing)
        for move in rng.sample(moves, min(5, len(moves))):
            begun = renamed_move(task, standing, move, renaming)
            self.assertEqual(begun, renamed_move_literally(move, renaming))
            self.assertTrue(is_move(other, told, begun))
            ticks = literal_ticks(task, standing, move)
            for late, behind in rng.sample(ticks, min(4, len(ticks))):
                ended = renamed_lateness(task, standing, move, late, renaming)
                self.assertEqual(ended, renamed_late_literally(late, renaming))
                self.assertTrue(is_lateness(other, told, begun, ended))
                self.assertEqual(after(other, told, begun, ended), renamed_standing(task, behind, renaming))

    def test_by_hand(self):
        step, other = (0, (0, 2), (), 1, 2), (0, (1,), (), 1, 1)
        task = ((((0,),), ((((0,),), 1, 2),), 3, 3, 0), (((step, other), (None, 1)), ((other,), (None,))))
        renaming = ((1, 0), (2, 0, 1))
        self.assertEqual(renamed_task(task, renaming), (task[0], (
            (((0, (0,), (), 1, 1),), (None,)), (((0, (1, 2), (), 1, 2), (0, (0,), (), 1, 1)), (None, 1)))))
        standing = (((1, 1), (0, 0)), ((0, ("out",)), (0, ("step", 1, 1)), (0, ("wash", 0, 1))))
        lab = changed(task, (1, 1, 0, 0, 4), 2)
        self.assertEqual(renamed_standing(lab, standing, renaming), (
            ((0, 0), (1, 1)), ((0, ("step", 0, 1)), (0, ("wash", 0, 1)), (0, ("out",)))))
        move = ((0, "step", 0), (1, "step", 1), (2, "wash", 0))
        self.assertEqual(renamed_move(task, start(task), move, renaming), (
            (0, "step", 0), (1, "wash", 0), (2, "step", 1)))
        self.assertEqual(renamed_lateness(task, start(task), move, ((0, 0), (1, 0)), renaming), ((0, 0), (2, 0)))
        self.assertEqual(renamed_lateness(task, start(task), move, ((1, 0), (2, 0)), renaming), ((0, 0), (1, 0)))

    def test_soonest_is_the_same(self):
        for task in TASKS[:14]:
            for renaming in all_renamings(task):
                other = renamed_task(task, renaming)
                self.assertEqual(soonest(other, start(other)), soonest(task, start(task)))

    def test_the_renaming_that_changes_nothing(self):
        for task in TASKS + (EMPTY_TASK, GREAT_TASK):
            same = (tuple(range(len(task[1]))), tuple(range(task[0][2])))
            self.assertEqual(renamed_task(task, same), task)
            self.assertEqual(renamed_standing(task, start(task), same), start(task))
            for move in literal_moves(task, start(task))[:5]:
                self.assertEqual(renamed_move(task, start(task), move, same), move)
                for late, _ in literal_ticks(task, start(task), move):
                    self.assertEqual(renamed_lateness(task, start(task), move, late, same), late)


class JoinedTest(unittest.TestCase):
    def test_joined_and_taken_back(self):
        rng = random.Random(582)
        for task in TASKS:
            renamings = all_renamings(task)
            same = renamings[0]
            for _ in range(6):
                one, other = rng.choice(renamings), rng.choice(renamings)
                joined = joined_renaming(task, one, other)
                self.assertIs(is_renaming(task, joined), True)
                self.assertEqual(renamed_task(task, joined), renamed_task(renamed_task(task, one), other))
                standing = start(task) if len(task[1]) > 2 else some_standings(task, 2)[-1]
                between = renamed_standing(task, standing, one)
                self.assertEqual(renamed_standing(task, standing, joined),
                                 renamed_standing(renamed_task(task, one), between, other))
                undone = undone_renaming(task, one)
                self.assertEqual(joined_renaming(task, one, undone), same)
                self.assertEqual(joined_renaming(task, undone, one), same)
                self.assertEqual(renamed_standing(renamed_task(task, one), between, undone), standing)

    def test_by_hand(self):
        task = (TASK[0][:2] + (3,) + TASK[0][3:], TASK[1])
        one, other = ((1, 2, 0), (0, 2, 1)), ((0, 2, 1), (1, 2, 0))
        self.assertEqual(joined_renaming(task, one, other), ((2, 1, 0), (1, 0, 2)))
        self.assertEqual(joined_renaming(task, other, one), ((1, 0, 2), (2, 1, 0)))
        self.assertEqual(undone_renaming(task, one), ((2, 0, 1), (0, 2, 1)))
        self.assertEqual(undone_renaming(EMPTY_TASK, ((), (0,))), ((), (0,)))
        self.assertEqual(joined_renaming(EMPTY_TASK, ((), (0,)), ((), (0,))), ((), (0,)))


class FormTest(unittest.TestCase):
    def test_wrong_renamings(self):
        right = ((1, 0), (0, 1))
        for wrong in NO_TUPLES + ((), right[:1], right + ((),), list(right), ((1, 0), [0, 1]), ((1,), (0, 1)),
                                  ((1, 0, 2), (0, 1)), ((1, 1), (0, 1)), ((1, 0), (0, 2)), ((1, 0), (0, -1)),
                                  ((1, 2), (0, 1)), ((True, False), (0, 1)), ((1, 0), (False, 1)), ((1, 0), (0, 1, 2)),
                                  ((1, 0), (0, None)), ((1, 0), ("0", 1)), ((), (0, 1)), (None, (0, 1))):
            self.check_wrong(wrong)
        rng = random.Random(583)
        for other in near_values(right, rng, 30):
            shape = is_plain(other) and len(other) == 2 and all(type(part) is tuple for part in other)
            if not (shape and all(sorted(part) == [0, 1] for part in other if all(type(one) is int for one in part))
                    and all(type(one) is int for part in other for one in part)):
                self.check_wrong(other)

    def check_wrong(self, wrong):
        standing, right = start(TWO_TASK), ((1, 0), (0, 1))
        self.assertIs(is_renaming(TWO_TASK, wrong), False)
        for call, more in ((renamed_task, ()), (renamed_standing, (standing,)), (renamed_move, (standing, ())),
                           (renamed_lateness, (standing, (), ())), (undone_renaming, ()), (joined_renaming, (right,))):
            refused(self, BadRenaming, {}, call, TWO_TASK, *more, wrong)
        refused(self, BadRenaming, {}, joined_renaming, TWO_TASK, wrong, "x")

    def test_numbers_of_the_task(self):
        for task, renaming, right in ((EMPTY_TASK, ((), (0,)), True), (EMPTY_TASK, ((0,), (0,)), False),
                                      (RUN_TASK, ((0,), (0,)), True), (RUN_TASK, ((), (0,)), False),
                                      (GREAT_TASK, ((3, 1, 0, 2), (2, 1, 0)), True),
                                      (GREAT_TASK, ((3, 1, 0, 2), (2, 1)), False)):
            self.assertIs(is_renaming(task, renaming), right)

    def test_errors_in_their_order(self):
        calls = ((is_renaming, ("x",)), (renamed_task, ("x",)), (renamed_standing, ("x", "y")),
                 (renamed_move, ("x", "y", "z")), (renamed_lateness, ("x", "y", "z", "u")),
                 (joined_renaming, ("x", "y")), (undone_renaming, ("x",)))
        for call, more in calls:
            refused(self, BadTask, {"word": "samples", "place": (1,)}, call, (DOC_LAB, 0), *more)
        for call, more in calls[2:5]:
            for wrong in WRONG_STANDINGS:
                with self.assertRaises(BadStanding):
                    call(RUN_TASK, wrong, *more[1:])
        for wrong in NEVER_RIGHT + NO_TUPLES + (((0, "wash", 1),), ((True, "step", 0),)):
            refused(self, BadMove, {"value": wrong}, renamed_move, RUN_TASK, start(RUN_TASK), wrong, "z")
            refused(self, BadMove, {"value": wrong}, renamed_lateness, RUN_TASK, start(RUN_TASK), wrong, "z", "u")
        for wrong in NEVER_RIGHT + NO_TUPLES + (((0, 0),), ((0, True),)):
            refused(self, BadLateness, {"value": wrong}, renamed_lateness, RUN_TASK, start(RUN_TASK),
                    ((0, "step", 0),), wrong, "u")
        broken = (((1, 2),), ((1, ()),))
        self.assertEqual(renamed_standing(RUN_TASK, broken, ((0,), (0,))), broken)
        refused(self, BadRenaming, {}, renamed_standing, RUN_TASK, broken, "x")


if __name__ == "__main__":
    unittest.main()
