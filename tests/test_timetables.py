"""[610]: TIMETABLES, RINGS, ORDERS HELD."""

import random
import unittest

from tests.examples import (
    EMPTY_TASK, HELD_ORDER, NEVER_RIGHT, NO_TUPLES, RUN_ORDER, RUN_TASK, SOUND_ORDERS, TWO_ORDER, TWO_TASK, all_fates,
    changed, is_plain, job_names, job_of_step, job_span, literal_links, literal_order_fault, near_values, refused,
    some_orders)
from washedarms.ends import keeps_windows, worst_end
from washedarms.errors import BadPaper, TooGreat
from washedarms.links import is_sound, order_links
from washedarms.timetables import held_order, is_ring, is_timetable, least_timetable, ring_of
from washedarms.ways import begins

# Many windows, so that there are RINGS.
ORDERS = SOUND_ORDERS + some_orders(540, 30, True, samples=3, steps=2, tools=2, arms=2)
ONE_LAB = (((0,),), (), 1, 1, 0)


def literal_conditions(task, order):
    """All CONDITIONS with the numbers that they add, by [610]."""
    found = {("link", first, later): job_span(task, order, first)[1] + gap
             for first, gap, later in literal_links(task, order) if first != ()}
    for sample, (_, windows) in enumerate(task[1]):
        for step, window in enumerate(windows):
            if window is not None:
                later, first = job_of_step(order, sample, step), job_of_step(order, sample, step - 1)
                found["window", later, first] = -job_span(task, order, first)[0] - window
    return found


def literal_is_timetable(task, order, paper):
    """Whether rows of integers from 0 are a TIMETABLE, by [610]."""
    tick = {job: paper[job[0]][job[1]] for job in job_names(order)}
    if any(first == () and tick[later] < gap for first, gap, later in literal_links(task, order)):
        return False
    return all(tick[last] >= tick[first] + added
               for (_, first, last), added in literal_conditions(task, order).items())


def literal_least(task, order):
    """The least TIMETABLE by putting ticks up, None if they go beyond all bounds."""
    tick = {job: 0 for job in job_names(order)}
    links, conditions = literal_links(task, order), literal_conditions(task, order)
    bound = 50 + sum(abs(added) for added in conditions.values()) + sum(gap for _, gap, _ in links)
    while all(told <= bound for told in tick.values()):
        more = dict(tick)
        for first, gap, later in links:
            if first == ():
                more[later] = max(more[later], gap)
        for (_, first, last), added in conditions.items():
            more[last] = max(more[last], tick[first] + added)
        if more == tick:
            return tuple(tuple(tick[tool, place] for place in range(len(row))) for tool, row in enumerate(order[0]))
        tick = more
    return None


def literal_is_ring(task, order, paper):
    """Whether a tuple of CONDITIONS is a RING, by [610]."""
    added = literal_conditions(task, order)
    if not paper or not all(one in added for one in paper):
        return False
    return all(one[2] == paper[(place + 1) % len(paper)][1] for place, one in enumerate(paper)) and sum(
        added[one] for one in paper) > 0


class TimetableTest(unittest.TestCase):
    def test_just_one_of_both(self):
        found = set()
        for task, order in ORDERS:
            paper, ring = least_timetable(task, order), ring_of(task, order)
            self.assertEqual(paper, literal_least(task, order))
            self.assertEqual(paper is None, ring is not None)
            if ring is not None:
                self.assertTrue(literal_is_ring(task, order, ring))
                self.assertIs(is_ring(task, order, ring), True)
            else:
                self.assertTrue(literal_is_timetable(task, order, paper))
                self.assertIs(is_timetable(task, order, paper), True)
            found.add((ring is not None and len(ring) > 2, paper is None))
        self.assertEqual(found, {(False, False), (False, True), (True, True)})

    def test_the_least_in_each_place(self):
        for task, order in ORDERS:
            paper = least_timetable(task, order)
            for job in job_names(order) if paper is not None else ():
                less = changed(paper, job, paper[job[0]][job[1]] - 1)
                self.assertIs(is_timetable(task, order, less), False)

    def test_by_hand(self):
        # The second step of sample 1 begins by tick 3, at most 1 tick behind the end, LOW 1, of the first one.
        self.assertEqual(least_timetable(TWO_TASK, TWO_ORDER), ((0, 2, 3), (1,)))
        self.assertIsNone(ring_of(TWO_TASK, TWO_ORDER))
        self.assertEqual(least_timetable(RUN_TASK, RUN_ORDER), None)
        self.assertEqual(sorted(ring_of(RUN_TASK, RUN_ORDER)), [
            ("link", (0, 0), (0, 1)), ("link", (0, 1), (0, 2)), ("window", (0, 2), (0, 0))])
        wide = changed(RUN_TASK, (1, 0, 1, 1), 2)
        self.assertEqual(least_timetable(wide, RUN_ORDER), ((0, 2, 3),))
        self.assertEqual(least_timetable(EMPTY_TASK, (((),), ())), ((),))
        held = (TWO_ORDER[0], (((), 9, (0, 0)),))
        self.assertEqual(least_timetable(TWO_TASK, held), ((9, 11, 12), (10,)))

    def test_other_papers(self):
        rng = random.Random(541)
        found = set()
        for task, order in ORDERS:
            paper = least_timetable(task, order)
            if paper is None:
                paper = tuple(tuple(rng.randint(0, 5) for _ in row) for row in order[0])
            others = [tuple(tuple(tick + more for tick in row) for row in paper) for more in (0, 1, 7)]
            others += [changed(paper, job, paper[job[0]][job[1]] + more) for job in job_names(order) for more in (1, 2)]
            for other in others:
                right = literal_is_timetable(task, order, other)
                self.assertIs(is_timetable(task, order, other), right)
                found.add(right)
            for other in near_values(paper, rng, 4) if job_names(order) else ():
                shape = is_plain(other) and [len(row) for row in other if type(row) is tuple] == [
                    len(row) for row in order[0]]
                right = shape and all(type(tick) is int and tick >= 0 for row in other for tick in row) and (
                    literal_is_timetable(task, order, other))
                self.assertIs(is_timetable(task, order, other), right)
        self.assertEqual(found, {True, False})

    def test_wrong_timetables(self):
        paper = ((0, 2, 3), (1,))
        for wrong in NO_TUPLES + (list(paper), paper[:1], paper + ((),), ((0, 2, 3), [1]), ((False, 2, 3), (1,)),
                                  ((0, 2, 3), (True,)), ((-1, 2, 3), (1,)), ((0, 2, 3), (None,)), ((0, 2), (1,)),
                                  ((0, 2, 3), (0,)), ((0, 1, 3), (1,)), ((0, 2, 3, 4), (1,)), ()):
            self.assertIs(is_timetable(TWO_TASK, TWO_ORDER, wrong), False)
            refused(self, BadPaper, {"name": "timetable", "index": None, "why": "form"}, held_order, TWO_TASK,
                    TWO_ORDER, wrong)


class RingTest(unittest.TestCase):
    def test_other_rings(self):
        rng = random.Random(542)
        found = set()
        for task, order in ORDERS:
            ring = ring_of(task, order)
            if ring is None:
                conditions = tuple(literal_conditions(task, order))
                ring = tuple(rng.sample(conditions, min(2, len(conditions))))
            others = [ring, ring[1:] + ring[:1], ring[::-1], ring * 2, ring[1:], ring + ring[:1], ()]
            others += [(one, (("window", "link")[one[0] == "window"],) + one[:0:-1]) for one in ring]
            others += [other for other in near_values(ring, rng, 5)] if ring else []
            for other in others:
                right = is_plain(other) and type(other) is tuple and all(
                    type(one) is tuple for one in other) and literal_is_ring(task, order, other)
                self.assertIs(is_ring(task, order, other), right)
                found.add(right)
        self.assertEqual(found, {True, False})

    def test_wrong_rings(self):
        ring = (("link", (0, 0), (0, 1)), ("link", (0, 1), (0, 2)), ("window", (0, 2), (0, 0)))
        self.assertIs(is_ring(RUN_TASK, RUN_ORDER, ring), True)
        self.assertIs(is_ring(RUN_TASK, RUN_ORDER, ring[1:] + ring[:1]), True)
        for wrong in NO_TUPLES + ((), list(ring), ring[:2], ring[:1] + ring[2:], ring[::-1],
                                  changed(ring, (0,), list(ring[0])), changed(ring, (0, 0), "window"),
                                  changed(ring, (0, 1, 1), False), changed(ring, (0, 1), 0),
                                  changed(ring, (0, 2), (0, 7)), changed(ring, (2, 0), "link"),
                                  changed(ring, (0, 0), "ring"), changed(ring, (0,), ring[0] + (0,)), (None,))\
                + tuple(changed(ring, (1, part), wrong) for part in range(3) for wrong in NEVER_RIGHT):
            self.assertIs(is_ring(RUN_TASK, RUN_ORDER, wrong), False)
        # The sum must be above 0: with a greater window it is just 0.
        wide = changed(RUN_TASK, (1, 0, 1, 1), 2)
        self.assertIs(is_ring(wide, RUN_ORDER, ring), False)
        self.assertIs(is_ring(wide, RUN_ORDER, ring * 2), False)


class HeldTest(unittest.TestCase):
    def test_facts(self):
        """It keeps its windows, and each job begins at its tick by any FATE."""
        tried = 0
        for task, order in ORDERS:
            paper = least_timetable(task, order)
            if paper is None:
                continue
            later = tuple(tuple(tick + 3 for tick in row) for row in paper)
            for table in (paper, later):
                held = held_order(task, order, table)
                self.assertTrue(is_sound(task, held))
                self.assertIsNone(literal_order_fault(task, held))
                self.assertTrue(keeps_windows(task, held))
                self.assertGreaterEqual(worst_end(task, held), max([tick for row in table for tick in row], default=0))
                for fate in all_fates(task, held)[::13]:
                    self.assertEqual(begins(task, held, fate)[0], table)
                tried += 1
        self.assertGreater(tried, 30)

    def test_by_the_words(self):
        for task, order in ORDERS:
            paper = least_timetable(task, order)
            if paper is not None:
                holds = [hold for hold in order[1] if hold[0] != ()]
                holds += [((), paper[job[0]][job[1]], job) for job in job_names(order)]
                self.assertEqual(held_order(task, order, paper), (order[0], tuple(sorted(holds))))

    def test_by_hand(self):
        self.assertEqual(held_order(TWO_TASK, HELD_ORDER, ((0, 2, 3), (1,))), (
            TWO_ORDER[0], (((), 0, (0, 0)), ((), 1, (1, 0)), ((), 2, (0, 1)), ((), 3, (0, 2)))))
        self.assertEqual(held_order(EMPTY_TASK, (((),), ()), ((),)), (((),), ()))

    def test_ticks_of_1000(self):
        task = (ONE_LAB, ((((0, (0,), (), 1, 1),), (None,)),))
        order = (((("step", 0, 0),),), ())
        self.assertEqual(held_order(task, order, ((1000,),))[1], (((), 1000, (0, 0)),))
        self.assertEqual(order_links(task, held_order(task, order, ((1000,),))), (((), 1000, (0, 0)),))
        for tick in (1001, 10 ** 900):
            self.assertIs(is_timetable(task, order, ((tick,),)), True)
            refused(self, TooGreat, {"most": 1000}, held_order, task, order, ((tick,),))


if __name__ == "__main__":
    unittest.main()
