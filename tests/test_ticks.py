"""[15], [302], [303]: LATENESSES, and what they lead to."""

import unittest

from tests.examples import (
    DOC_LAB, EMPTY_TASK, GREAT_TASK, NEVER_RIGHT, NO_TUPLES, RUN_TASK, TASK, at, changed, literal_broken,
    literal_moves, literal_standings, literal_ticks, places, random_tasks)
from washedarms.errors import BadLateness, BadMove, BadStanding, BadTask, Broken
from washedarms.forms import is_standing, start
from washedarms.ticks import after, is_lateness, latenesses_of

TASKS = [EMPTY_TASK, RUN_TASK] + random_tasks(47, 12, states=2, samples=2, tools=2, zones=1) + random_tasks(
    48, 3, states=2, stuffs=1, samples=2, steps=1, tools=3, arms=3, zones=0, washes=1)
# A wash of three results that takes 2 to 4 ticks, and a step that takes 1 to 3, with a window of 1 behind it.
LAB = (((1, 0), (1, None), (2, 2)), ((((0,), (0, 1, 2), (1,)), 2, 4),), 2, 2, 0)
STEPS = ((0, (0, 1), (), 1, 3), (1, (0, 1), (), 2, 2))
WAIT_TASK = (LAB, ((STEPS, (None, 1)), (STEPS, (None, None))))


class TicksTest(unittest.TestCase):
    def test_by_the_words(self):
        longest = 0
        for task in TASKS:
            rows = literal_standings(task)
            for standing in rows[::max(1, len(rows) // 60)] + rows[-1:]:
                if literal_broken(task, standing):
                    continue
                for move in literal_moves(task, standing)[::3]:
                    told = literal_ticks(task, standing, move)
                    self.assertEqual(latenesses_of(task, standing, move), tuple(late for late, _ in told))
                    self.assertGreater(len(told), 0)
                    for late, behind in told:
                        self.assertIs(is_lateness(task, standing, move, late), True)
                        self.assertEqual(after(task, standing, move, late), behind)
                        self.assertTrue(is_standing(task, behind))
                        longest = max(longest, len(late))
        self.assertEqual(longest, 3)

    def check(self, standing, move, rows, task=WAIT_TASK):
        """Check all LATENESSES of a MOVE and what they lead to."""
        self.assertEqual(latenesses_of(task, standing, move), tuple(sorted(rows)))
        for late, behind in rows.items():
            self.assertEqual(after(task, standing, move, late), behind)

    def test_low_and_high(self):
        idle, clean = (0, ()), ((0, 0), (0, 0))
        self.check((clean, (idle, idle)), (), {(): (clean, (idle, idle))})
        begun = ((0, "step", 0),)
        self.check((clean, (idle, idle)), begun, {
            (): (clean, ((0, ("step", 0, 1)), idle)), ((0, 1),): (((1, 0), (0, 0)), ((1, ()), idle))})
        self.check((clean, ((0, ("step", 0, 1)), idle)), (), {
            (): (clean, ((0, ("step", 0, 2)), idle)), ((0, 1),): (((1, 0), (0, 0)), ((1, ()), idle))})
        self.check((clean, ((0, ("step", 0, 2)), idle)), (), {((0, 1),): (((1, 0), (0, 0)), ((1, ()), idle))})
        self.check((clean, ((1, ()), idle)), ((0, "wash", 0),), {(): (clean, ((1, ("wash", 0, 1)), idle))})
        for gone in (1, 2):
            self.check((clean, ((1, ("wash", 0, gone)), idle)), (), {
                (): (clean, ((1, ("wash", 0, gone + 1)), idle)), ((0, 0),): (clean, ((0, ()), idle)),
                ((0, 1),): (clean, ((1, ()), idle)), ((0, 2),): (clean, ((2, ()), idle))})
        self.check((clean, ((1, ("wash", 0, 3)), idle)), (), {
            ((0, 0),): (clean, ((0, ()), idle)), ((0, 1),): (clean, ((1, ()), idle)),
            ((0, 2),): (clean, ((2, ()), idle))})
        # LOW is HIGH: it ends then, and not ahead.
        rests = ((1, 1), (1, 0))
        self.check((rests, (idle, idle)), ((1, "step", 0),), {
            (): (((1, 0), (1, 0)), (idle, (0, ("step", 0, 1))))})
        self.check((((1, 0), (1, 0)), (idle, (0, ("step", 0, 1)))), (), {
            ((1, 0),): (((2, 0), (1, 0)), (idle, (0, ())))})

    def test_waiting(self):
        idle, out = (0, ()), (0, ("out",))
        # Only where a window is ahead waiting counts.
        self.check((((1, 0), (1, 0)), (idle, out)), (), {(): (((1, 1), (1, 0)), (idle, out))})
        self.check((((1, 1), (1, 0)), (idle, out)), (), {(): (((1, 2), (1, 0)), (idle, out))})
        self.check((((0, 0), (2, 0)), (idle, out)), (), {(): (((0, 0), (2, 0)), (idle, out))})
        # It goes on beside other jobs; a begun step sets it back.
        self.check((((1, 0), (0, 0)), (idle, out)), ((0, "step", 1),), {
            (): (((1, 1), (0, 0)), ((0, ("step", 1, 1)), out)), ((0, 1),): (((1, 1), (1, 0)), ((1, ()), out))})
        self.check((((1, 1), (0, 0)), (idle, out)), ((0, "step", 0),), {
            (): (((1, 0), (0, 0)), ((0, ("step", 0, 1)), out))})

    def test_both_end(self):
        pairs = ((1, ("wash", 0, 3)), (0, ("step", 1, 2)))
        clean = ((0, 0), (0, 0))
        self.check((clean, pairs), (), {
            ((0, state), (1, 1)): (((0, 0), (1, 0)), ((state, ()), (1, ()))) for state in (0, 1, 2)})
        pairs = ((0, ("step", 0, 1)), (2, ("step", 1, 1)))
        self.assertEqual(latenesses_of(WAIT_TASK, (clean, pairs), ()), ((), ((0, 1),), ((0, 1), (1, 2)), ((1, 2),)))

    def test_done_standings_go_on(self):
        task = RUN_TASK
        done = (((2, 0),), ((1, ()),))
        self.check(done, ((0, "wash", 0),), {((0, 0),): (((2, 0),), ((0, ()),))}, task)
        self.check(done, (), {(): done}, task)
        self.check(start(EMPTY_TASK), (), {(): start(EMPTY_TASK)}, EMPTY_TASK)

    def test_a_window_is_overstepped(self):
        behind = after(RUN_TASK, (((1, 1),), ((1, ()),)), (), ())
        self.assertEqual(behind, (((1, 2),), ((1, ()),)))
        with self.assertRaises(Broken):
            latenesses_of(RUN_TASK, behind, ())

    def test_what_is_none(self):
        standing = (((0, 0), (0, 0)), ((1, ("wash", 0, 2)), (0, ("step", 1, 1))))
        right = ((0, 2), (1, 1))
        self.assertIs(is_lateness(WAIT_TASK, standing, (), right), True)
        for wrong in (((1, 1), (0, 2)), ((0, 0), (0, 2)), ((0, 3),), ((1, 0),), ((1, 2),), ((2, 1),), ((-1, 1),),
                      ((0,),),
                      ((0, 2, 0),), (0, 2), [(0, 2)], ([0, 2],), ((False, 2),), ((1, True),), ((0, None),), (None,),
                      ((0, -1),), ((1, 1), (1, 1)), None):
            self.check_bad(standing, (), wrong)
        for place in places(right):
            for wrong in NEVER_RIGHT + NO_TUPLES:
                if type(wrong) is not type(at(right, place)) or wrong != at(right, place):
                    if type(wrong) is int and place in ((0, 1),) and wrong in (0, 1):
                        continue
                    self.check_bad(standing, (), changed(right, place, wrong))
        # What must end is not left out, what can't end isn't told.
        late = (((0, 0), (0, 0)), ((1, ("wash", 0, 3)), (0, ("step", 1, 2))))
        for wrong in ((), ((0, 2),), ((1, 1),)):
            self.check_bad(late, (), wrong)
        idle = (((0, 0), (0, 0)), ((1, ()), (0, ())))
        self.check_bad(idle, ((0, "wash", 0),), ((0, 1),))
        self.check_bad(idle, (), ((0, 1),))

    def check_bad(self, standing, move, wrong):
        self.assertIs(is_lateness(WAIT_TASK, standing, move, wrong), False)
        with self.assertRaises(BadLateness) as caught:
            after(WAIT_TASK, standing, move, wrong)
        self.assertIs(caught.exception.value, wrong)

    def test_errors_in_their_order(self):
        broken = (((1, 2),), ((1, ()),))
        for call, more in ((latenesses_of, ()), (is_lateness, ("x",)), (after, ("x",))):
            with self.assertRaises(BadTask):
                call((DOC_LAB, 0), "x", "y", *more)
            for wrong in NO_TUPLES + ((),):
                with self.assertRaises(BadStanding):
                    call(TASK, wrong, "y", *more)
            for move in ((), "y", ((0, "wash", 0),)):
                with self.assertRaises(Broken):
                    call(RUN_TASK, broken, move, *more)
            for wrong in NEVER_RIGHT + NO_TUPLES + (((0, "wash", 1),), ((0, "step", 0), (0, "wash", 0)), ((True,
                    "step", 0),),
                                                    ((0, "step", False),), ((0, "step", 1),), ((0, "rinse", 0),)):
                with self.assertRaises(BadMove) as caught:
                    call(RUN_TASK, start(RUN_TASK), wrong, *more)
                self.assertIs(caught.exception.value, wrong)

    def test_the_greatest(self):
        standing = (((0, 0),) * 4, ((1, ("wash", 2, 5)), (2, ("wash", 1, 5)), (0, ("step", 3, 5))))
        self.assertEqual(latenesses_of(GREAT_TASK, standing, ()), (((0, 0), (1, 2), (2, 0)),))
        self.assertEqual(after(GREAT_TASK, standing, (), ((0, 0), (1, 2), (2, 0))),
                         (((0, 0), (0, 0), (0, 0), (1, 0)), ((0, ()), (2, ()), (0, ()))))


if __name__ == "__main__":
    unittest.main()
