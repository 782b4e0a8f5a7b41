"""[702]: SYMMETRIES, forms, STANDINGS that are alike."""

import unittest

from tests.examples import (
    CROSS_TASK, DOC_LAB, EMPTY_TASK, EVEN_TASKS, GREAT_TASK, HUGE_TASK, RUN_TASK, SMALL_TASKS, STUCK_TWINS, TASK,
    THREE_TASK, TOOL_TASK, TWIN_TASK, WRONG_STANDINGS, changed, literal_comings, literal_form, literal_symmetries,
    random_tasks, refused, renamed_standing_literally, some_standings)
from washedarms.errors import BadStanding, BadTask
from washedarms.forms import start
from washedarms.symmetries import alike, form_of, symmetries

TASKS = EVEN_TASKS + SMALL_TASKS + tuple(random_tasks(700, 20, samples=2, steps=1, tools=3, states=1, stuffs=1))


class SymmetriesTest(unittest.TestCase):
    def test_by_the_words(self):
        counts = set()
        for task in TASKS:
            self.assertEqual(symmetries(task), literal_symmetries(task))
            counts.add(len(symmetries(task)))
        self.assertLessEqual({1, 2, 4, 6, 12}, counts)

    def test_by_hand(self):
        one = ((0,), (0,))
        self.assertEqual(symmetries(RUN_TASK), (one,))
        self.assertEqual(symmetries(EMPTY_TASK), (((), (0,)),))
        self.assertEqual(symmetries(TWIN_TASK), (
            ((0, 1), (0, 1)), ((0, 1), (1, 0)), ((1, 0), (0, 1)), ((1, 0), (1, 0))))
        self.assertEqual(symmetries(CROSS_TASK), (((0, 1), (0, 1)), ((1, 0), (1, 0))))
        self.assertEqual(symmetries(TOOL_TASK), (((0, 1), (0, 1)), ((0, 1), (1, 0))))
        self.assertEqual(len(symmetries(THREE_TASK)), 12)
        self.assertEqual(len(symmetries(HUGE_TASK)), 144)
        # The second and the third step name one tool each.
        self.assertEqual(len(symmetries(GREAT_TASK)), 24)
        self.assertEqual(symmetries((THREE_TASK[0], ())), tuple(((), tools) for tools in (
            (0, 1, 2), (0, 2, 1), (1, 0, 2), (1, 2, 0), (2, 0, 1), (2, 1, 0))))
        # Neither windows nor spans, stuffs or zones may be unlike.
        for place, new in (((1, 0, 1, 1), 0), ((1, 0, 0, 0, 4), 2), ((1, 0, 0, 0, 2), (0,)), ((1, 0, 0, 1, 1), (0, 1))):
            self.assertLess(len(symmetries(changed(THREE_TASK, place, new))), 12)


class FormTest(unittest.TestCase):
    def test_by_the_words(self):
        moved = 0
        for task in TASKS:
            for standing in some_standings(task, 6):
                self.assertEqual(form_of(task, standing), literal_form(task, standing))
                moved += literal_form(task, standing) != standing
                self.assertEqual(form_of(task, form_of(task, standing)), form_of(task, standing))
        self.assertGreater(moved, 50)

    def test_by_hand(self):
        standing = (((1, 0), (0, 0)), ((1, ()), (0, ("step", 1, 1))))
        self.assertEqual(form_of(TWIN_TASK, standing), (((0, 0), (1, 0)), ((0, ("step", 0, 1)), (1, ()))))
        self.assertEqual(form_of(STUCK_TWINS, (((1, 0), (0, 0)), ((1, ()),))), (((0, 0), (1, 0)), ((1, ()),)))
        self.assertEqual(form_of(CROSS_TASK, (((1, 1), (0, 0)), ((0, ()), (0, ("out",))))),
                         (((0, 0), (1, 1)), ((0, ("out",)), (0, ()))))
        # The whole is least, though its tools alone are not.
        self.assertEqual(form_of(CROSS_TASK, (((0, 0), (1, 1)), ((0, ("out",)), (0, ())))),
                         (((0, 0), (1, 1)), ((0, ("out",)), (0, ()))))
        for task in (HUGE_TASK, GREAT_TASK, EMPTY_TASK):
            self.assertEqual(form_of(task, start(task)), start(task))


class AlikeTest(unittest.TestCase):
    def test_by_the_words(self):
        found = set()
        for task in TASKS:
            standings = some_standings(task, 5)
            for standing in standings:
                others = [renamed_standing_literally(standing, one) for one in literal_symmetries(task)]
                for other in others + list(standings):
                    right = [one for one in literal_symmetries(task)
                             if renamed_standing_literally(standing, one) == other]
                    told = alike(task, standing, other)
                    self.assertEqual(told, right[0] if right else None)
                    # Alike are those that have one form.
                    self.assertEqual(told is not None, literal_form(task, standing) == literal_form(task, other))
                    found.add(len(right))
        self.assertLessEqual({0, 1, 2}, found)

    def test_what_comes_renamed_comes(self):
        for task in EVEN_TASKS:
            come = set(literal_comings(task))
            for one in symmetries(task):
                self.assertEqual({renamed_standing_literally(standing, one) for standing in come}, come)


class ErrorsTest(unittest.TestCase):
    def test_errors_in_their_order(self):
        for call, more in ((symmetries, ()), (form_of, ("x",)), (alike, ("x", "y"))):
            refused(self, BadTask, {"word": "samples", "place": (1,)}, call, (DOC_LAB, 0), *more)
        for wrong in WRONG_STANDINGS:
            for call, more in ((form_of, ()), (alike, ("x",))):
                with self.assertRaises(BadStanding):
                    call(RUN_TASK, wrong, *more)
            with self.assertRaises(BadStanding):
                alike(RUN_TASK, start(RUN_TASK), wrong)
        refused(self, BadStanding, {"word": "samples", "place": (0, 0, 1)}, alike, RUN_TASK, start(RUN_TASK),
                (((0, 1),), ((0, ()),)))
        # A STANDING of another TASK is none of this one.
        with self.assertRaises(BadStanding):
            form_of(TASK, start(RUN_TASK))


if __name__ == "__main__":
    unittest.main()
