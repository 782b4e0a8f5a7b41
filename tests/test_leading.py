"""[708], [713]: COVERS joined and united, LIVE PLANS led over them."""

import random
import unittest

from tests.examples import (
    DOC_LAB, EMPTY_TASK, EVEN_TASKS, NO_TUPLES, RUN_STANDINGS, RUN_TASK, SMALL_TASKS, X_TASKS, changed,
    literal_answers, literal_comings, literal_cover, literal_done, literal_pair_word, literal_rows, near_values,
    refused, some_standings, standings_within, wide_plans)
from washedarms.comparing import compared
from washedarms.covers import cover_fault
from washedarms.easier import easier_cover
from washedarms.errors import BadCover, BadPaper, BadTask, TooGreat
from washedarms.forms import start
from washedarms.leading import joined_covers, led_plan, united_covers
from washedarms.planchecks import is_live_plan, plan_fault
from washedarms.plans import live_plan
from washedarms.ranks import soonest

FIRST, LAST = RUN_STANDINGS[0], RUN_STANDINGS[-1]


def shorter(rng, task):
    """A TASK that covers another one: with one thing easier."""
    lab, samples = task
    sample = rng.randrange(len(samples)) if samples else 0
    if not samples or not samples[sample][0] or rng.random() < 0.3:
        return (lab[:3] + (min(3, lab[3] + 1),) + lab[4:], samples)
    number = rng.randrange(len(samples[sample][0]))
    if rng.random() < 0.5:
        return changed(task, (1, sample, 1, number), None)
    return changed(task, (1, sample, 0, number, 3), samples[sample][0][number][4])


def triples(seed, many):
    """Some TASKS A, B and C of which each covers the next one, from the START or from others."""
    rng = random.Random(seed)
    tasks = [task for task in SMALL_TASKS + EVEN_TASKS if standings_within(task, start(task), 40)]
    found = []
    while len(found) < many:
        third = rng.choice(tasks)
        other = shorter(rng, third)
        task = shorter(rng, other)
        words = [compared(one, start(one), two, start(two))[0] for one, two in ((task, other), (other, third))]
        if words == ["cover", "cover"]:
            found.append((task, other, third))
    return found


TRIPLES = triples(740, 25)


def wide_cover(rng, task, other):
    """A COVER with more than what comes from the STARTS: from some other pairs, with good pairs."""
    pairs = set()
    for _ in range(3):
        one, two = rng.choice(some_standings(task, 3)), rng.choice(some_standings(other, 3))
        pairs |= literal_cover(task, one, other, two)
    pairs |= literal_cover(task, start(task), other, start(other))
    for one in literal_comings(task)[-4:]:
        pairs |= {(one, two) for two in literal_comings(other)[-4:]
                  if literal_pair_word(task, one, other, two) == "good"}
    return tuple(sorted(pairs))


class JoinedTest(unittest.TestCase):
    def test_by_the_words(self):
        rng = random.Random(741)
        for task, other, third in TRIPLES:
            for cover, paper in ((compared(task, start(task), other, start(other))[1],
                                  compared(other, start(other), third, start(third))[1]),
                                 (wide_cover(rng, task, other), wide_cover(rng, other, third))):
                told = joined_covers(task, other, third, cover, paper)
                right = {(one, end) for one, place in cover for begin, end in paper if place == begin}
                self.assertEqual(told, tuple(sorted(
                    pair for pair in right if literal_pair_word(task, pair[0], third, pair[1]) == "live")))
                self.assertIsNone(cover_fault(task, third, told))
                self.assertEqual(joined_covers(task, other, third, cover, ()), ())
                self.assertEqual(joined_covers(task, other, third, (), paper), ())

    def test_united(self):
        rng = random.Random(742)
        for task, other, _ in TRIPLES:
            cover, paper = wide_cover(rng, task, other), wide_cover(rng, task, other)
            told = united_covers(task, other, cover, paper)
            self.assertEqual(told, tuple(sorted(set(cover) | set(paper))))
            self.assertIsNone(cover_fault(task, other, told))
            self.assertEqual(united_covers(task, other, cover, cover), cover)
            self.assertEqual(united_covers(task, other, (), cover), cover)
            self.assertEqual(united_covers(task, other, cover, ()), cover)
        # Good pairs stay.
        self.assertEqual(united_covers(RUN_TASK, RUN_TASK, ((LAST, LAST),), ((LAST, FIRST),)),
                         ((LAST, FIRST), (LAST, LAST)))
        self.assertEqual(joined_covers(RUN_TASK, RUN_TASK, RUN_TASK, ((LAST, FIRST),), ((LAST, FIRST),)), ())


class LedTest(unittest.TestCase):
    def test_by_the_words(self):
        rng = random.Random(743)
        many = 0
        for task, other, _ in TRIPLES:
            for plan in wide_plans(other) + (live_plan(other, start(other)), ()):
                if plan is None:
                    continue
                for cover in (wide_cover(rng, task, other), compared(task, start(task), other, start(other))[1]):
                    told = led_plan(task, other, cover, plan)
                    self.assertEqual(told, self.literal_led(task, other, cover, plan))
                    self.assertIsNone(plan_fault(task, told))
                    many += len(told)
        self.assertGreater(many, 500)

    def literal_led(self, task, other, cover, plan):
        rows = {}
        for one in sorted({one for one, _ in cover if not literal_done(task, one)}):
            led = sorted((row[2], row[0], row[1]) for row in plan if (one, row[0]) in cover)
            if led:
                rank, place, move = led[0]
                behind = [right for _, right in dict(literal_rows(other, place))[move]]
                rows[one] = (one, literal_answers(task, one, other, set(cover), behind)[0], rank)
        return tuple(rows.values())

    def test_it_is_a_plan_for_the_start(self):
        for task, other, third in TRIPLES:
            ticks = soonest(third, start(third))
            if ticks is None:
                continue
            plan = live_plan(third, start(third))
            cover = compared(other, start(other), third, start(third))[1]
            led = led_plan(other, third, cover, plan)
            self.assertTrue(is_live_plan(other, start(other), ticks, led))
            paper = compared(task, start(task), other, start(other))[1]
            self.assertTrue(is_live_plan(task, start(task), ticks, led_plan(task, other, paper, led)))
            joined = joined_covers(task, other, third, paper, cover)
            self.assertTrue(is_live_plan(task, start(task), ticks, led_plan(task, third, joined, plan)))

    def test_easier_tasks(self):
        slow = changed(X_TASKS[0], (1, 0, 1, 2), None)
        fast = changed(X_TASKS[1], (1, 0, 1, 2), None)
        cover = compared(fast, start(fast), slow, start(slow))[1]
        plan = live_plan(slow, start(slow))
        self.assertTrue(is_live_plan(fast, start(fast), 4, led_plan(fast, slow, cover, plan)))
        wide = changed(X_TASKS[0], (1, 0, 1, 2), 6)
        self.assertTrue(is_live_plan(wide, start(wide), 4, led_plan(
            wide, X_TASKS[0], easier_cover(wide, X_TASKS[0]), live_plan(X_TASKS[0], start(X_TASKS[0])))))


    def test_rows_of_equal_ranks(self):
        # One STANDING beside two others, of which each has a tool out of use: it answers the MOVE of the least one.
        step = (0, (0, 1), (), 1, 1)
        task = (((((1,), (1,))), (), 2, 2, 0), (((step, step), (None, None)),))
        idle, out, used = (0, ()), (0, ("out",)), (1, ())
        none, one = ((0, 0),), ((1, 0),)
        first, last = (none, (idle, out)), (none, (out, idle))
        cover = (((none, (idle, idle)), first), ((none, (idle, idle)), last), ((one, (idle, used)), (one, (out, used))),
                 ((one, (used, idle)), (one, (used, out))))
        begin, other = ((0, "step", 0),), ((1, "step", 0),)
        plan = ((first, begin, 2), (last, other, 2), ((one, (out, used)), other, 1), ((one, (used, out)), begin, 1))
        plan = tuple(sorted(plan))
        told = led_plan(task, task, tuple(sorted(cover)), plan)
        self.assertEqual(dict((row[0], row[1:]) for row in told)[none, (idle, idle)], (begin, 2))
        # The one of lesser RANK goes first.
        slow = tuple((row[0], row[1], row[2] + (row[0] in (first, (one, (used, out))))) for row in plan)
        told = led_plan(task, task, tuple(sorted(cover)), slow)
        self.assertEqual(dict((row[0], row[1:]) for row in told)[none, (idle, idle)], (other, 2))


class ErrorsTest(unittest.TestCase):
    def test_wrong_covers(self):
        rng = random.Random(744)
        same = easier_cover(RUN_TASK, RUN_TASK)
        wrong = [(value, (-1, "form")) for value in NO_TUPLES]
        wrong += [(value, cover_fault(RUN_TASK, RUN_TASK, value)) for value in near_values(same, rng, 30)]
        wrong += [(((FIRST, LAST),), (0, "bad")), (((FIRST, FIRST),), (0, "move")),
                  (same + same[:1], (len(same), "order"))]
        for value, fault in wrong:
            if fault is None:
                continue
            first = {"which": 0, "index": fault[0], "why": fault[1]}
            second = {"which": 1, "index": fault[0], "why": fault[1]}
            refused(self, BadCover, first, joined_covers, RUN_TASK, RUN_TASK, RUN_TASK, value, "x")
            refused(self, BadCover, second, joined_covers, RUN_TASK, RUN_TASK, RUN_TASK, same, value)
            refused(self, BadCover, first, united_covers, RUN_TASK, RUN_TASK, value, "x")
            refused(self, BadCover, second, united_covers, RUN_TASK, RUN_TASK, same, value)
            refused(self, BadCover, first, led_plan, RUN_TASK, RUN_TASK, value, "x")

    def test_wrong_plans(self):
        same = easier_cover(RUN_TASK, RUN_TASK)
        plan = live_plan(RUN_TASK, FIRST)
        for wrong, index, why in ((plan[1:], 0, None), (plan[:-1], 2, "answer"), (plan + plan[:1], 4, "order"),
                                  (list(plan), None, "form"), ((0,), 0, "form"),
                                  (((LAST, (), 1),), 0, "over")):
            if why is not None:
                refused(self, BadPaper, {"name": "plan", "index": index, "why": why}, led_plan, RUN_TASK, RUN_TASK,
                        same, wrong)
        self.assertEqual(led_plan(RUN_TASK, RUN_TASK, same, plan), plan)
        self.assertEqual(led_plan(RUN_TASK, RUN_TASK, same, plan[1:]), plan[1:])
        self.assertEqual(led_plan(RUN_TASK, RUN_TASK, same, ()), ())
        self.assertEqual(led_plan(EMPTY_TASK, RUN_TASK, (), plan), ())

    def test_errors_in_their_order(self):
        bad = (DOC_LAB, 0)
        told = {"word": "samples", "place": (1,)}
        for places, call, more in ((3, joined_covers, ("x", "y")), (2, united_covers, ("x", "y")),
                                   (2, led_plan, ("x", "y"))):
            for place in range(places):
                tasks = [RUN_TASK] * place + [bad] + ["z"] * (places - place - 1)
                refused(self, BadTask, told, call, *tasks, *more)
        many = (0,) * 20001
        same = easier_cover(RUN_TASK, RUN_TASK)
        refused(self, TooGreat, {"most": 20000}, joined_covers, RUN_TASK, RUN_TASK, RUN_TASK, many, "x")
        refused(self, TooGreat, {"most": 20000}, joined_covers, RUN_TASK, RUN_TASK, RUN_TASK, same, many)
        refused(self, TooGreat, {"most": 20000}, united_covers, RUN_TASK, RUN_TASK, many, "x")
        refused(self, TooGreat, {"most": 20000}, united_covers, RUN_TASK, RUN_TASK, same, many)
        refused(self, TooGreat, {"most": 20000}, led_plan, RUN_TASK, RUN_TASK, many, "x")
        refused(self, TooGreat, {"most": 20000}, led_plan, RUN_TASK, RUN_TASK, same, many)
        refused(self, BadCover, {"which": 0, "index": -1, "why": "form"}, led_plan, RUN_TASK, RUN_TASK, "x", many)


if __name__ == "__main__":
    unittest.main()
