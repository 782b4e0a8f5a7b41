"""[509]: HISTORIES of plan papers."""

import random
import unittest

from tests.examples import (
    DOC_LAB, EMPTY_TASK, NEVER_RIGHT, NO_TUPLES, PAPER_TASK, RUN_STANDINGS, RUN_TASK, SMALL_TASKS, WRONG_STANDINGS,
    changed, literal_done, literal_rows, near_values, places, refused, wide_plans)
from tests.examples import RUN_BROKEN as BROKEN, RUN_OUT as OUT, RUN_PLAN as PLAN
from washedarms.errors import BadHistory, BadNumber, BadPaper, BadStanding, BadTask, NoRow, TooGreat
from washedarms.forms import start
from washedarms.histories import ends, history_of, led, number_of

FIRST, DONE = RUN_STANDINGS[0], RUN_STANDINGS[4]
STEP = ((0, "step", 0),)
# The example under "Checkers of papers".
A, B = (((0, 0),), ((0, ()),)), (((0, 0),), ((0, ("step", 0, 1)),))
PAPER = ((A, STEP, 2), (B, (), 1))


def all_histories(task, standing, paper, most):
    """All HISTORIES with their STANDINGS, ascending; None of too many."""
    moves = {row[0]: row[1] for row in paper}
    found, layer = [], [((), (standing,))]
    while layer:
        found += [row for row in layer if literal_done(task, row[1][-1])]
        layer = [(history + (late,), come + (behind,)) for history, come in layer if not literal_done(task, come[-1])
                 for late, behind in dict(literal_rows(task, come[-1]))[moves[come[-1]]]]
        if len(layer) > most:
            return None
    return sorted(found)


class HistoryTest(unittest.TestCase):
    def test_beside_a_list_of_all(self):
        sizes = set()
        for task in SMALL_TASKS[::2]:
            for paper in wide_plans(task):
                for one in [row[0] for row in paper[::max(1, len(paper) // 4)]]:
                    listed = all_histories(task, one, paper, 400)
                    if listed is None:
                        continue
                    lengths = [len(history) for history, _ in listed]
                    self.assertEqual(ends(task, one, paper),
                                     tuple((ticks, lengths.count(ticks)) for ticks in sorted(set(lengths))))
                    for number in sorted({0, len(listed) // 2, len(listed) - 1}):
                        history, come = listed[number]
                        self.assertEqual(history_of(task, one, paper, number), history)
                        self.assertEqual(number_of(task, one, paper, history), number)
                        self.assertEqual(led(task, one, paper, history), come)
                    for wrong in (-1, len(listed)):
                        refused(self, BadNumber, {"value": wrong}, history_of, task, one, paper, wrong)
                    sizes.add(len(listed))
        self.assertLessEqual({1, 2, 4}, sizes)
        self.assertGreater(max(sizes), 20)

    def test_all_numbers(self):
        for task in SMALL_TASKS:
            paper = wide_plans(task)[0]
            if any(row[0] == start(task) for row in paper):
                listed = all_histories(task, start(task), paper, 60)
                for number, (history, _) in enumerate(listed or ()):
                    self.assertEqual(history_of(task, start(task), paper, number), history)
                    self.assertEqual(number_of(task, start(task), paper, history), number)

    def test_the_example(self):
        self.assertEqual(ends(PAPER_TASK, A, PAPER), ((1, 1), (2, 1)))
        self.assertEqual(history_of(PAPER_TASK, A, PAPER, 0), ((), ((0, 1),)))
        self.assertEqual(history_of(PAPER_TASK, A, PAPER, 1), (((0, 1),),))
        self.assertEqual(ends(PAPER_TASK, B, PAPER), ((1, 1),))
        done = (((1, 0),), ((1, ()),))
        self.assertEqual(led(PAPER_TASK, A, PAPER, ((), ((0, 1),))), (A, B, done))
        self.assertEqual(led(PAPER_TASK, A, PAPER, (((0, 1),),)), (A, done))

    def test_done(self):
        for task, standing, paper in ((RUN_TASK, DONE, PLAN), (RUN_TASK, DONE, ()),
                                      (EMPTY_TASK, start(EMPTY_TASK), ()), (RUN_TASK, (((2, 0),), ((1, ()),)), PLAN)):
            self.assertEqual(ends(task, standing, paper), ((0, 1),))
            self.assertEqual(history_of(task, standing, paper, 0), ())
            self.assertEqual(number_of(task, standing, paper, ()), 0)
            self.assertEqual(led(task, standing, paper, ()), (standing,))
            refused(self, BadNumber, {"value": 1}, history_of, task, standing, paper, 1)
            self.assertIsNone(number_of(task, standing, paper, ((),)))
            refused(self, BadHistory, {"value": ((),)}, led, task, standing, paper, ((),))

    def test_no_histories(self):
        rng = random.Random(400)
        for task in SMALL_TASKS[::4]:
            paper = wide_plans(task)[0]
            for one in [row[0] for row in paper[:3]]:
                listed = all_histories(task, one, paper, 200)
                rows = [history for history, _ in listed or ()]
                for history in rows[:3]:
                    for other in near_values(history, rng, 5) + [history[:-1], history + ((),)]:
                        plain = all(type(part) is tuple or type(part) is int for part in parts_of(other))
                        if plain and other in rows:
                            self.assertEqual(number_of(task, one, paper, other), rows.index(other))
                        else:
                            self.assertIsNone(number_of(task, one, paper, other))
                            refused(self, BadHistory, {"value": other}, led, task, one, paper, other)
        for wrong in NO_TUPLES + NEVER_RIGHT + ((), ((),), ((), ()), [()], ((), [(0, 1)]), ((), ((0, True),)),
                                                (((0, 1),), ()), ((), ((0, 1),), ())):
            self.assertIsNone(number_of(PAPER_TASK, A, PAPER, wrong))
            refused(self, BadHistory, {"value": wrong}, led, PAPER_TASK, A, PAPER, wrong)

    def test_great_ranks(self):
        """A tool that waits 399 ticks at most: each tick of a wash may come to its end, or not."""
        lab = (((0,),), ((((0,),), 1, 6),), 1, 1, 0)
        task = (lab, ((((0, (0,), (), 1, 6),) * 4, (None,) * 4),))
        plan = paper = ()
        for done in range(3, -1, -1):
            plan = tuple(((((done, 0),), ((0, job),)), () if job else STEP, 6 * (4 - done) - (job[2] if job else 0))
                         for job in ((),) + tuple(("step", 0, gone) for gone in range(1, 6))) + plan
        paper = tuple(sorted(plan))
        many = 6 ** 4
        self.assertEqual(sum(number for _, number in ends(task, start(task), paper)), many)
        self.assertEqual([ticks for ticks, _ in ends(task, start(task), paper)], list(range(4, 25)))
        for number in (0, 7, 600, many - 1):
            history = history_of(task, start(task), paper, number)
            self.assertEqual(number_of(task, start(task), paper, history), number)
        for more, right in ((376, True), (377, False)):
            high = tuple((one, move, rank + more) for one, move, rank in paper)
            for call, rest in ((ends, ()), (history_of, (0,)), (number_of, ("x",)), (led, ((),))):
                if not right:
                    refused(self, TooGreat, {"most": 400}, call, task, start(task), high, *rest)
                elif call == led:
                    refused(self, BadHistory, {"value": ()}, call, task, start(task), high, ())
                else:
                    self.assertEqual(call(task, start(task), high, *rest), call(task, start(task), paper, *rest))


class ErrorsTest(unittest.TestCase):
    def test_arguments_in_their_order(self):
        for call, more in ((ends, ()), (history_of, ("x",)), (number_of, ("x",)), (led, ("x",))):
            refused(self, BadTask, {"word": "samples", "place": (1,)}, call, (DOC_LAB, 0), "x", "y", *more)
            for wrong in WRONG_STANDINGS:
                with self.assertRaises(BadStanding):
                    call(RUN_TASK, wrong, "y", *more)
            for standing in (FIRST, DONE, BROKEN, OUT):
                for wrong in NO_TUPLES:
                    refused(self, BadPaper, {"name": "plan", "index": None, "why": "form"}, call, RUN_TASK, standing,
                            wrong, *more)
                refused(self, BadPaper, {"name": "plan", "index": 0, "why": "answer"}, call, RUN_TASK, standing,
                        PLAN[:1], *more)
                refused(self, BadPaper, {"name": "plan", "index": 1, "why": "order"}, call, RUN_TASK, standing,
                        changed(PLAN, (1,), PLAN[0]), *more)
                refused(self, TooGreat, {"most": 20000}, call, RUN_TASK, standing, (None,) * 20001, *more)
                high = changed(PLAN, (0, 2), 401)
                refused(self, TooGreat, {"most": 400}, call, RUN_TASK, standing, high, *more)
            for standing in (BROKEN, OUT):
                refused(self, NoRow, {"standing": standing}, call, RUN_TASK, standing, PLAN, *more)
            if call == ends:
                self.assertEqual(call(RUN_TASK, FIRST, changed(PLAN, (0, 2), 400)), ((3, 1), (4, 1)))

    def test_numbers(self):
        for wrong in NEVER_RIGHT + NO_TUPLES + (-1, 2, (0,)):
            if type(wrong) is int and wrong == 0:
                continue
            refused(self, BadNumber, {"value": wrong}, history_of, PAPER_TASK, A, PAPER, wrong)


def parts_of(value):
    """All that stands in nested tuples, itself first."""
    found = []
    for place in places(value):
        part = value
        for index in place:
            part = part[index]
        found.append(part)
    return found


if __name__ == "__main__":
    unittest.main()
