"""[14], [303]: MOVES."""

import unittest

from tests.examples import (
    DOC_LAB, EMPTY_TASK, GREAT_TASK, NEVER_RIGHT, NO_TUPLES, RUN_LAB, RUN_TASK, TASK, at, changed, literal_broken,
    literal_is_move, literal_moves, literal_standings, places, random_tasks)
from washedarms.errors import BadStanding, BadTask, Broken
from washedarms.forms import start
from washedarms.moves import is_move, moves_of

TASKS = [EMPTY_TASK, RUN_TASK] + random_tasks(45, 14, states=2, samples=2, tools=2, zones=1) + random_tasks(
    46, 4, states=1, stuffs=1, samples=3, steps=1, tools=3, arms=2, zones=2, washes=1)


class MovesTest(unittest.TestCase):
    def test_by_the_words(self):
        many = set()
        for task in TASKS:
            rows = literal_standings(task)
            for standing in rows[::max(1, len(rows) // 150)] + rows[-1:]:
                if literal_broken(task, standing):
                    for call, more in ((moves_of, ()), (is_move, ("x",)), (is_move, ((),))):
                        with self.assertRaises(Broken):
                            call(task, standing, *more)
                    continue
                told = moves_of(task, standing)
                self.assertEqual(told, literal_moves(task, standing))
                self.assertEqual(told[0], ())
                self.assertTrue(all(is_move(task, standing, move) is True for move in told))
                many.add(max(len(move) for move in told))
        self.assertEqual(many, {0, 1, 2})

    def test_moves_of_the_greatest(self):
        for arms in (1, 2, 3):
            task = (GREAT_TASK[0][:3] + (arms, 4), GREAT_TASK[1])
            told = moves_of(task, start(task))
            self.assertEqual(max(len(move) for move in told), arms)
            self.assertEqual(told, tuple(sorted(set(told))))
            self.assertTrue(all(literal_is_move(task, start(task), move) for move in told))
        self.assertEqual(len(told), len(literal_moves(GREAT_TASK, start(GREAT_TASK))))

    def test_by_hand(self):
        self.assertEqual(moves_of(EMPTY_TASK, start(EMPTY_TASK)), ((),))
        self.assertEqual(moves_of(RUN_TASK, start(RUN_TASK)), ((), ((0, "step", 0),), ((0, "wash", 0),)))
        self.assertEqual(moves_of(RUN_TASK, (((1, 0),), ((1, ()),))), ((), ((0, "wash", 0),)))
        self.assertEqual(moves_of(RUN_TASK, (((1, 1),), ((0, ()),))), ((), ((0, "step", 0),), ((0, "wash", 0),)))
        self.assertEqual(moves_of(RUN_TASK, (((2, 0),), ((0, ()),))), ((), ((0, "wash", 0),)))
        self.assertEqual(moves_of(RUN_TASK, (((0, 0),), ((0, ("out",)),))), ((),))
        self.assertEqual(moves_of(RUN_TASK, (((0, 0),), ((0, ("step", 0, 1)),))), ((),))
        # Both samples use the zone 0; ((0, "step", 0), (1, "step", 1)) is no MOVE.
        step = (0, (0, 1), (0,), 1, 2)
        task = (DOC_LAB, (((step,), (None,)), ((step,), (None,))))
        self.assertEqual(moves_of(task, start(task)), (
            (), ((0, "step", 0),), ((0, "step", 0), (1, "wash", 0)), ((0, "step", 1),),
            ((0, "step", 1), (1, "wash", 0)), ((0, "wash", 0),), ((0, "wash", 0), (1, "step", 0)),
            ((0, "wash", 0), (1, "step", 1)), ((0, "wash", 0), (1, "wash", 0)), ((1, "step", 0),), ((1, "step", 1),),
            ((1, "wash", 0),)))
        running = (((0, 0), (0, 0)), ((0, ("step", 0, 1)), (0, ())))
        self.assertEqual(moves_of(task, running), ((), ((1, "wash", 0),)))
        washing = (((0, 0), (0, 0)), ((0, ("wash", 0, 1)), (0, ())))
        self.assertEqual(moves_of(task, washing), ((), ((1, "step", 0),), ((1, "step", 1),), ((1, "wash", 0),)))
        one_arm = (DOC_LAB[:3] + (1, 2), task[1])
        self.assertEqual(moves_of(one_arm, washing), ((),))
        # A tool that is out of use takes no arm.
        out = (((0, 0), (0, 0)), ((0, ("out",)), (1, ())))
        self.assertEqual(moves_of(one_arm, out), ((), ((1, "step", 0),), ((1, "step", 1),), ((1, "wash", 0),)))

    def test_what_is_none(self):
        step = (0, (0, 1), (), 1, 2)
        task = (DOC_LAB, (((step,), (None,)), ((step,), (None,)), (((1, (1,), (), 1, 1),), (None,))))
        standing = (((0, 0), (0, 0), (0, 0)), ((0, ()), (2, ())))
        right = ((0, "step", 0), (1, "step", 2))
        self.assertIs(is_move(task, standing, right), True)
        for wrong in (((1, "step", 2), (0, "step", 0)), ((0, "step", 0), (0, "step", 0)), ((0, "step", 0), (0, "step",
                1)),
                      ((0, "step", 0), (1, "step", 0)), ((0, "step", 2),), ((1, "step", 0),), ((2, "step", 0),),
                      ((-1, "step", 0),), ((0, "step", 3),), ((0, "step", -1),), ((0, "wash", 1),), ((0, "rinse", 0),),
                      ((0, "step"),), ((0, "step", 0, 0),), (0, "step", 0), [(0, "step", 0)], ([0, "step", 0],),
                      ((0, "out", 0),), ((False, "step", 0),), ((0, "step", False),), ((0, "step", 0), (True, "step",
                              2)),
                      ((0, 0, 0),), ((0, None, 0),)):
            self.assertIs(is_move(task, standing, wrong), False, wrong)
        for place in places(right):
            for wrong in NEVER_RIGHT + NO_TUPLES:
                if at(right, place) != wrong or type(wrong) is not type(at(right, place)):
                    self.assertIs(is_move(task, standing, changed(right, place, wrong)),
                                  place == () and type(wrong) is tuple, (place, wrong))

    def test_errors(self):
        for call, more in ((moves_of, ()), (is_move, ("x",))):
            with self.assertRaises(BadTask):
                call((RUN_LAB, 0), "x", *more)
            for wrong in NO_TUPLES + ((),):
                with self.assertRaises(BadStanding):
                    call(TASK, wrong, *more)
            with self.assertRaises(Broken):
                call(RUN_TASK, (((1, 2),), ((1, ()),)), *more)


if __name__ == "__main__":
    unittest.main()
