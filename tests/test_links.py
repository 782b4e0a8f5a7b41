"""[601] to [603]: ORDERS, their LINKS, the jobs that jobs are led to, the first fault."""

import random
import unittest

from tests.examples import (
    DOC_LAB, EMPTY_TASK, HELD_ORDER, NEVER_RIGHT, NO_TUPLES, OTHER_ORDERS, RUN_LAB, RUN_ORDER, RUN_TASK, SOUND_ORDERS,
    TWO_LAB, TWO_ORDER, TWO_TASK, at, changed, job_names, literal_led, literal_links, literal_order_fault, places,
    refused)
from washedarms.armrows import arm_rows, is_arm_rows, is_unled
from washedarms.ends import end_paper, is_end_paper, keeps_windows, worst_end
from washedarms.errors import BadOrder, BadTask, Unsound
from washedarms.links import is_sound, led_jobs, order_fault, order_links
from washedarms.playing import play
from washedarms.timetables import held_order, is_ring, is_timetable, least_timetable, ring_of
from washedarms.waits import breaking_paper, is_breaking, is_keeping, keeping_paper, worst_wait
from washedarms.ways import begins, way_count, ways_to

ANY_ORDER = ((order_fault, ()), (is_sound, ()), (order_links, ()), (led_jobs, ()))
SOUND_ONLY = (
    (way_count, ("x",)), (ways_to, ("x",)), (begins, ("x",)), (worst_wait, ("x", "y")),
    (keeping_paper, ("x", "y", "z")), (breaking_paper, ("x", "y", "z")), (is_keeping, ("x", "y", "z", 0)),
    (is_breaking, ("x", "y", "z", 0)), (worst_end, ()), (end_paper, ()), (is_end_paper, ("x", 0)),
    (keeps_windows, ()), (least_timetable, ()), (ring_of, ()), (is_timetable, (0,)), (is_ring, (0,)),
    (held_order, (0,)), (play, ("x",)), (arm_rows, ()), (is_arm_rows, (0,)), (is_unled, (0,)))
# The step 1 comes ahead of the step 0, is told twice, or not at all.
STEPS = (("step", 0, 0), ("step", 0, 1))


def other_orders(rng, task, order, many):
    """ORDERS that are made of another one by leaving a job out, doubling, exchanging or moving one, or by a HOLD."""
    found = []
    for _ in range(many):
        rows, holds = order
        tool, other = rng.randrange(len(rows)), rng.randrange(len(rows))
        if not rows[tool]:
            continue
        place = rng.randrange(len(rows[tool]))
        thing = rows[tool][place]
        without = changed(rows, (tool,), rows[tool][:place] + rows[tool][place + 1:])
        index = rng.randint(0, len(without[other]))
        moved = changed(without, (other,), without[other][:index] + (thing,) + without[other][index:])
        doubled = changed(rows, (tool,), rows[tool][:place + 1] + rows[tool][place:])
        found += [(moved, ()), (without, ()), (doubled, ())]
        job, later = rng.choice(job_names(order)), rng.choice(job_names(order))
        if all((first, last) != (job, later) for first, _, last in holds):
            found.append((rows, tuple(sorted(holds + ((job, rng.choice((0, 3, 1000)), later),)))))
    return found


class LinksTest(unittest.TestCase):
    def check(self, task, order):
        fault = literal_order_fault(task, order)
        self.assertEqual(order_fault(task, order), fault)
        self.assertIs(is_sound(task, order), fault is None)
        self.assertEqual(order_links(task, order), literal_links(task, order))
        led = literal_led(task, order)
        self.assertEqual(led_jobs(task, order), tuple(
            tuple(tuple(sorted(led[tool, place])) for place in range(len(row))) for tool, row in enumerate(order[0])))
        return fault and fault[0]

    def test_by_the_words(self):
        rng = random.Random(510)
        words = set()
        for task, order in SOUND_ORDERS + OTHER_ORDERS:
            words.add(self.check(task, order))
            for other in other_orders(rng, task, order, 5):
                words.add(self.check(task, other))
        self.assertEqual(words, {None, "steps", "let", "ring", "state", "zones", "arms"})

    def test_the_example(self):
        self.assertEqual(order_links(TWO_TASK, TWO_ORDER), (
            ((), 0, (0, 0)), ((), 0, (1, 0)), ((0, 0), 0, (0, 1)), ((0, 1), 0, (0, 2)), ((1, 0), 0, (0, 2))))
        self.assertEqual(led_jobs(TWO_TASK, TWO_ORDER), ((((0, 1), (0, 2)), ((0, 2),), ()), (((0, 2),),)))
        self.assertIsNone(order_fault(TWO_TASK, TWO_ORDER))
        self.assertEqual(order_links(TWO_TASK, HELD_ORDER)[:2], (((), 0, (0, 0)), ((), 1, (1, 0))))

    def test_links_by_hand(self):
        rows = TWO_ORDER[0]
        # Of several ones with the same jobs the one with the greatest GAP.
        holds = ((), 7, (0, 1)), ((0, 0), 0, (1, 0)), ((0, 0), 5, (0, 1))
        self.assertEqual(order_links(TWO_TASK, (rows, holds)), (
            ((), 0, (0, 0)), ((), 7, (0, 1)), ((0, 0), 0, (1, 0)), ((0, 0), 5, (0, 1)), ((0, 1), 0, (0, 2)),
            ((1, 0), 0, (0, 2))))
        # A job that is LATER of nothing but of a HOLD from the start begins with this one alone.
        self.assertEqual(order_links(TWO_TASK, (rows, (((), 0, (1, 0)),)))[:2], (((), 0, (0, 0)), ((), 0, (1, 0))))
        # Each job of a step is ahead of each one of the next step.
        one = (RUN_LAB[:2] + (2, 2, 0), (RUN_TASK[1][0],))
        order = ((STEPS[:1] + STEPS[1:], STEPS[:1] + STEPS[1:]), ())
        self.assertEqual(order_links(one, order), (
            ((), 0, (0, 0)), ((), 0, (1, 0)), ((0, 0), 0, (0, 1)), ((0, 0), 0, (1, 1)), ((1, 0), 0, (0, 1)),
            ((1, 0), 0, (1, 1))))
        self.assertEqual(order_fault(one, order), ("steps", 0, 0))
        ring = ((STEPS[::-1],), ())
        self.assertEqual(order_links(RUN_TASK, ring), (((0, 0), 0, (0, 1)), ((0, 1), 0, (0, 0))))
        self.assertEqual(led_jobs(RUN_TASK, ring), ((((0, 0), (0, 1)), ((0, 0), (0, 1))),))
        self.assertEqual(order_fault(RUN_TASK, ring), ("ring",))
        self.assertEqual(order_links(RUN_TASK, ((STEPS[1:],), ())), (((), 0, (0, 0)),))
        self.assertEqual(order_links(EMPTY_TASK, (((),), ())), ())
        self.assertEqual(led_jobs(EMPTY_TASK, (((),), ())), ((),))

    def test_faults_by_hand(self):
        wash = ("wash", 0)
        for rows, fault in (((), ("steps", 0, 0)), (STEPS[:1], ("steps", 0, 1)), (STEPS[1:], ("steps", 0, 0)),
                            (STEPS + STEPS[1:], ("steps", 0, 1)), (STEPS, ("state", (0, 1))),
                            ((wash, STEPS[0], STEPS[1]), ("state", (0, 2))), ((STEPS[0], wash, STEPS[1], wash), None),
                            (STEPS[::-1] + (wash,), ("ring",))):
            self.assertEqual(order_fault(RUN_TASK, ((rows,), ())), fault)
        job = (0, 1)
        self.assertEqual(order_fault(RUN_TASK, (RUN_ORDER[0], ((job, 0, job),))), ("ring",))
        self.assertEqual(order_fault(RUN_TASK, (RUN_ORDER[0], (((0, 2), 3, (0, 0)),))), ("ring",))
        # A wash that isn't sure: some state that the tool may come to may not touch the stuff.
        unsure = ((RUN_LAB[0], ((((0, 1), (0,)), 1, 1),), 1, 1, 0), RUN_TASK[1])
        self.assertEqual(order_fault(unsure, (((wash, STEPS[0], wash, STEPS[1]),), ())), None)
        self.assertEqual(order_fault(unsure, (((STEPS[0], wash, wash, STEPS[1]),), ())), ("state", (0, 3)))
        # Steps that share a zone, and more jobs than arms.
        step = (0, (0, 1), (0,), 1, 1)
        task = (TWO_LAB[:4] + (1,), (((step,), (None,)), ((step,), (None,))))
        rows = ((("step", 1, 0),), (("step", 0, 0),))
        self.assertEqual(order_fault(task, (rows, ())), ("zones", (0, 0), (1, 0)))
        self.assertIsNone(order_fault(task, (rows, (((1, 0), 0, (0, 0)),))))
        one_arm = (TWO_LAB[:3] + (1, 0), TWO_TASK[1])
        self.assertEqual(order_fault(one_arm, TWO_ORDER), ("arms", ((0, 0), (1, 0))))
        self.assertEqual(order_fault(one_arm, (TWO_ORDER[0], (((0, 0), 0, (1, 0)),))), ("arms", ((0, 1), (1, 0))))
        self.assertIsNone(order_fault(one_arm, (TWO_ORDER[0], (((0, 1), 0, (1, 0)),))))
        only = changed(TWO_TASK, (1, 1, 0, 0, 1), (0,))
        self.assertEqual(order_fault(only, TWO_ORDER), ("let", (1, 0)))
        # The first fault is told.
        self.assertEqual(order_fault(only, (((), TWO_ORDER[0][0]), ())), ("steps", 1, 0))

    def test_the_order_of_faults(self):
        step, other = (0, (0, 1), (0,), 1, 1), (1, (1,), (), 1, 1)
        lab = (((1, 0), (1, None)), ((((0,), (0,)), 1, 1),), 2, 1, 1)
        task = (lab, (((step, other), (None, None)), ((step,), (None,))))
        rows = ((("step", 1, 0),), (("step", 0, 1), ("step", 0, 0)))
        self.assertEqual(order_fault(task, (rows[:1] + (rows[1][:1],), ())), ("steps", 0, 0))
        self.assertEqual(order_fault(task, ((rows[1], rows[0]), ())), ("let", (0, 0)))
        self.assertEqual(order_fault(task, (rows, ())), ("ring",))
        dirty = ((("step", 1, 0),), (("step", 0, 0), ("step", 0, 1)))
        self.assertEqual(order_fault(task, (dirty, ())), ("state", (1, 1)))
        clean = ((("step", 1, 0),), (("step", 0, 0), ("wash", 0), ("step", 0, 1)))
        self.assertEqual(order_fault(task, (clean, ())), ("zones", (0, 0), (1, 0)))
        self.assertEqual(order_fault(task, (clean, (((0, 0), 0, (1, 0)),))), None)
        self.assertEqual(order_fault(task, (clean, (((1, 0), 0, (0, 0)),))), ("arms", ((0, 0), (1, 1))))


class FormTest(unittest.TestCase):
    def check(self, wrong, word, place, task=TWO_TASK):
        for call, more in ANY_ORDER + SOUND_ONLY:
            refused(self, BadOrder, {"word": word, "place": place}, call, task, wrong, *more)

    def test_no_pairs(self):
        for wrong in NO_TUPLES + ((), TWO_ORDER[:1], TWO_ORDER + ((),), list(TWO_ORDER)):
            self.check(wrong, "order", None)

    def test_rows(self):
        for wrong in NO_TUPLES + ((), ((),), ((), (), ()), ([], ()), ((), None), list(TWO_ORDER[0]), ((), "")):
            self.check((wrong, 0), "rows", None)
        for thing in NO_TUPLES + NEVER_RIGHT + (
                (), ("step", 0), ("step", 0, 2), ("step", 2, 0), ("step", 0, -1), ("step", -1, 0), ("step", 0, 0, 0),
                ("step", True, 0), ("step", 0, False), ("wash", 0), ("wash",), ("wait", 0), ["step", 0, 0],
                ("step", None, 0), ("step", 0, "0"), ("Step", 0, 0), (Ellipsis, 0, 0), ("wash", 0, 0)):
            self.check((((("step", 0, 0), thing), (thing,)), 0), "rows", (0, 1))
            self.check(((TWO_ORDER[0][0], (thing,)), 0), "rows", (1, 0))
        for thing in (("wash", 1), ("wash", -1), ("wash", True), ("wash", False), ("wash", None), ("wash",), ("wash", 0,
                0)):
            self.check((((("wash", 0), thing),), 0), "rows", (0, 1), RUN_TASK)
        self.check(((((("step", 0, 0),))), 0), "rows", None)

    def test_20_jobs(self):
        wash = ("wash", 0)
        lab = RUN_LAB[:2] + (2, 2, 0)
        task = (lab, ())
        for one, other in ((20, 0), (11, 9), (0, 20)):
            order = (((wash,) * one, (wash,) * other), ())
            self.assertIsNone(order_fault(task, order))
            self.assertEqual(len(order_links(task, order)), 20)
            self.check((((wash,) * one, (wash,) * other + (wash,)), 0), "rows", None, task)
        # A thing that is none comes ahead of too many.
        self.check((((wash,) * 21, (0,)), 0), "rows", (1, 0), task)

    def test_holds(self):
        rows = TWO_ORDER[0]
        for wrong in NO_TUPLES + ([((), 1, (0, 0))],):
            self.check((rows, wrong), "holds", None)
        good = ((), 1, (0, 0))
        for hold in NO_TUPLES + NEVER_RIGHT + (
                (), good[:2], good + (0,), list(good), ((), -1, (1, 0)), ((), 1001, (1, 0)), ((), True, (1, 0)),
                ((), None, (1, 0)), (None, 0, (1, 0)), ((), 0, ()), ((0, 0), 0, ()), ((0, 3), 0, (1, 0)),
                ((2, 0), 0, (1, 0)), ((0, 0), 0, (1, 1)), ((0, 0), 0, (-1, 0)), ((0, 0), 0, (1, -1)),
                ((0, True), 0, (1, 0)), ((0, 0), 0, (True, 0)), ((0,), 0, (1, 0)), ((0, 0, 0), 0, (1, 0)),
                ([0, 0], 0, (1, 0)), ([], 0, (1, 0)), (0, 0, (1, 0)), (False, 0, (1, 0))):
            self.check((rows, (good, hold)), "holds", 1)
            self.check((rows, (hold, good)), "holds", 0)
        late = ((0, 0), 3, (1, 0))
        for holds, index in (((good, good), 1), ((late, good), 1), ((good, ((), 2, (0, 0))), 1),
                             ((good, late, late), 2), ((good, late, ((0, 0), 4, (1, 0))), 2),
                             ((((0, 0), 0, (1, 0)), ((0, 0), 1, (0, 1)), ((0, 0), 2, (1, 0))), 2)):
            self.check((rows, holds), "holds", index)
        for holds in ((), (good,), (good, late), (((), 0, (0, 0)), ((), 1000, (0, 1)), ((1, 0), 0, (1, 0)))):
            order_links(TWO_TASK, (rows, holds))

    def test_wrong_values_everywhere(self):
        order = (TWO_ORDER[0], (((), 1, (1, 0)), ((0, 0), 2, (0, 2))))
        self.assertIsNone(order_fault(TWO_TASK, order))
        for place in places(order)[1:]:
            for wrong in NEVER_RIGHT + (None,):
                told = at(order, place)
                if type(told) is type(wrong) is str and told == wrong:
                    continue
                if place[0] == 0:
                    right = ("rows", place[1:3] if len(place) > 2 else None)
                else:
                    right = ("holds", place[1] if len(place) > 1 else None)
                refused(self, BadOrder, {"word": right[0], "place": right[1]}, order_fault, TWO_TASK,
                        changed(order, place, wrong))

    def test_tasks(self):
        for call, more in ANY_ORDER + SOUND_ONLY:
            refused(self, BadTask, {"word": "samples", "place": (1,)}, call, (DOC_LAB, 0), "x", *more)

    def test_unsound(self):
        for call, more in SOUND_ONLY:
            refused(self, Unsound, {"fault": ("ring",)}, call, RUN_TASK, ((STEPS[::-1],), ()), *more)
            refused(self, Unsound, {"fault": ("steps", 0, 1)}, call, RUN_TASK, ((STEPS[:1],), ()), *more)
        for task, order in OTHER_ORDERS[::10]:
            for call, more in SOUND_ONLY:
                refused(self, Unsound, {"fault": literal_order_fault(task, order)}, call, task, order, *more)


if __name__ == "__main__":
    unittest.main()
