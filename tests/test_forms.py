"""[13], [31]: what a STANDING of a TASK is."""

import random
import unittest

from tests.examples import (
    DOC_LAB, EMPTY_TASK, GREAT_LAB, GREAT_TASK, NEVER_RIGHT, NO_TUPLES, RUN_TASK, TASK, at, changed, literal_jobs,
    literal_positions, literal_standings, literal_stands, Odd, places, random_tasks)
from washedarms.errors import BadStanding, BadTask
from washedarms.forms import is_standing, need_standing, pairs_for, positions, standing_fault, start

TASKS = [EMPTY_TASK, RUN_TASK] + random_tasks(3, 12, states=2, tools=2) + random_tasks(4, 6, states=1, stuffs=1)
# Sample 0 may be run by both tools, sample 2 by tool 1, and they share the zone 0.
GOOD = (((1, 1), (0, 0), (1, 0)), ((1, ("wash", 0, 2)), (0, ("step", 2, 1))))


class FaultTest(unittest.TestCase):
    def check(self, task, value, fault):
        self.assertEqual(standing_fault(task, value), fault, value)
        self.assertIs(is_standing(task, value), fault is None)
        if fault is None:
            self.assertIs(need_standing(task, value), value)
        else:
            with self.assertRaises(BadStanding) as caught:
                need_standing(task, value)
            self.assertEqual((caught.exception.word, caught.exception.place), fault)

    def test_all_that_may_be(self):
        for task in TASKS:
            right = {value: True for value in literal_standings(task)}
            pairs = [(state, job) for state in range(len(task[0][0])) for job in literal_jobs(task)]
            for value in list(right)[:3000]:
                self.check(task, value, None)
            rng = random.Random(5)
            for _ in range(500):
                rests = tuple(rng.choice(literal_positions(sample)) for sample in task[1])
                row = tuple(rng.choice(pairs) for _ in range(task[0][2]))
                self.assertEqual(is_standing(task, (rests, row)), (rests, row) in right)

    def test_no_pair(self):
        for value in NO_TUPLES + ((), (GOOD[0],), GOOD + ((),), list(GOOD)):
            self.check(TASK, value, ("standing", ()))

    def test_one_wrong_thing_anywhere(self):
        self.check(TASK, GOOD, None)
        for place in places(GOOD)[1:]:
            # A JOB is looked at as a whole.
            told = place[:3] if place[0] == 1 else place
            for wrong in NEVER_RIGHT + (None,):
                if wrong == "step" and type(at(GOOD, place)) is str:
                    continue
                value = changed(GOOD, place, wrong)
                self.check(TASK, value, (("samples", "tools")[place[0]], told))
            if type(at(GOOD, place)) is tuple:
                for value in (list(at(GOOD, place)), at(GOOD, place) * 2, at(GOOD, place)[:-1]):
                    self.check(TASK, changed(GOOD, place, value), (("samples", "tools")[place[0]], told))

    def test_the_first_of_two_wrong_things_is_told(self):
        found = places(GOOD)[1:]
        for one in found:
            for other in found:
                if one != other[:len(one)] and other != one[:len(other)]:
                    first = min(one, other)
                    value = changed(changed(GOOD, one, "x"), other, None)
                    told = first[:3] if first[0] == 1 else first
                    self.check(TASK, value, (("samples", "tools")[first[0]], told))

    def test_numbers_of_things(self):
        self.check(TASK, (GOOD[0][:2], "x"), ("samples", (0,)))
        self.check(TASK, (GOOD[0] + ((0, 0),), "x"), ("samples", (0,)))
        self.check(TASK, (GOOD[0], GOOD[1][:1]), ("tools", (1,)))
        self.check(TASK, (GOOD[0], GOOD[1] + ((0, ()),)), ("tools", (1,)))
        self.check(EMPTY_TASK, ((), ((0, ()),)), None)
        self.check(EMPTY_TASK, (((0, 0),), ((0, ()),)), ("samples", (0,)))

    def test_done_and_waited(self):
        idle = ((0, ()),) * 3
        most = {(1): 7, (2): 1, (3): 0}
        for done in range(-2, 8):
            for waited in range(-2, 10):
                fault = None
                if not 0 <= done <= 4:
                    fault = ("samples", (0, 2, 0))
                elif not 0 <= waited <= most.get(done, 0):
                    fault = ("samples", (0, 2, 1))
                rests = ((0, 0), (0, 0), (done, waited), (0, 0))
                self.check(GREAT_TASK, (rests, idle), fault)

    def test_states(self):
        for state in range(-2, 12):
            for tool in (0, 1, 2):
                pairs = changed(((0, ()),) * 3, (tool, 0), state)
                fault = None if 0 <= state <= 7 else ("tools", (1, tool, 0))
                self.check(GREAT_TASK, (((0, 0),) * 4, pairs), fault)

    def check_jobs(self, rests, jobs, tool=None, task=TASK, states=(0, 0, 0)):
        pairs = tuple((state, job) for state, job in zip(states, jobs))
        self.check(task, (rests, pairs), None if tool is None else ("tools", (1, tool, 1)))

    def test_words_of_jobs(self):
        clean = ((0, 0),) * 3
        for job in (("out",), ()):
            self.check_jobs(clean, (job, job))
        for job in (("in",), ("out", 0), ("out", 0, 0), ("out", 0, 1), ("step",), ("wash", 0), ("step", 0), ("step",
                0, 1, 1),
                    ("rinse", 0, 1), (Odd(),), (Odd(), 0, 1), (0, 0, 1), (None,), (0,), "out", ["out"], ("wash", 0, 1,
                            1)):
            self.check_jobs(clean, (job, ()), 0)
            self.check_jobs(clean, ((), job), 1)

    def test_gone(self):
        for gone in range(-2, 9):
            self.check_jobs(((0, 0), (0, 0), (0, 0)), ((), ("wash", 0, gone)), None if 1 <= gone <= 2 else 1)
            self.check_jobs(((0, 0), (0, 0), (0, 0)), ((), ("step", 2, gone)), None if 1 <= gone <= 2 else 1)
            self.check_jobs(((0, 0), (0, 0), (1, 0)), (("step", 2, gone), ()), None if gone == 1 else 0)
            for wash, most in ((0, 0), (1, 5), (2, 5)):
                self.check_jobs(((0, 0),) * 4, ((), (), ("wash", wash, gone)), None if 1 <= gone <= most else 2,
                                GREAT_TASK)

    def test_which(self):
        for which in (-2, -1, 1, 2, 9, True, False, None, "0", (0,), 10 ** 900):
            self.check_jobs(((0, 0),) * 3, (("wash", which, 1), ()), 0)
        for which in (-3, -2, -1, 1, 3, 4, False, None, "0", (0,), 10 ** 900):
            self.check_jobs(((0, 0),) * 3, (("step", which, 1), ()), 0)
            self.check_jobs(((0, 0),) * 3, ((), ("step", which, 1)), 1)

    def test_what_a_step_needs(self):
        # All is done; no steps; it waits; the tool isn't let; the stuff is barred in the state 1.
        self.check_jobs(((2, 0), (0, 0), (0, 0)), (("step", 0, 1), ()), 0)
        self.check_jobs(((0, 0), (0, 0), (0, 0)), (("step", 1, 1), ()), 0)
        self.check_jobs(((1, 0), (0, 0), (0, 0)), ((), ("step", 0, 1)))
        self.check_jobs(((1, 1), (0, 0), (0, 0)), ((), ("step", 0, 1)), 1)
        self.check_jobs(((1, 0), (0, 0), (0, 0)), (("step", 0, 1), ()), 0)
        self.check_jobs(((1, 0), (0, 0), (0, 0)), ((), ("step", 0, 1)), 1, states=(0, 1))
        self.check_jobs(((1, 0), (0, 0), (0, 0)), ((), ("step", 0, 1)), states=(0, 2))

    def test_a_sample_twice_and_shared_zones(self):
        task = (DOC_LAB[:2] + (3, 3, 2), (
            (((0, (0, 1, 2), (0,), 1, 2),), (None,)), (((0, (0, 1, 2), (0, 1), 1, 2),), (None,)),
            (((0, (0, 1, 2), (1,), 1, 2),), (None,))))
        clean = ((0, 0),) * 3
        one, two, three, wash = ("step", 0, 1), ("step", 1, 1), ("step", 2, 1), ("wash", 0, 1)
        self.check_jobs(clean, (one, three, wash), task=task)
        self.check_jobs(clean, (wash, wash, wash), task=task)
        self.check_jobs(clean, (one, one, ()), 1, task)
        # The last sample uses no zone, and stands in one JOB all the same.
        no_zone = (task[0], task[1][:2] + ((((0, (0, 1, 2), (), 1, 2),), (None,)),))
        self.check_jobs(clean, (one, (), three), task=no_zone)
        self.check_jobs(clean, (three, three, ()), 1, no_zone)
        self.check_jobs(clean, (three, one, three), 2, no_zone)
        self.check_jobs(clean, ((), three, three), 2, no_zone)
        self.check_jobs(clean, (one, wash, one), 2, task)
        self.check_jobs(clean, (one, two, ()), 1, task)
        self.check_jobs(clean, (one, three, two), 2, task)
        self.check_jobs(clean, (two, (), three), 2, task)
        self.check_jobs(clean, ((), two, ()), task=task)

    def test_arms(self):
        for arms in (1, 2, 3):
            task = (DOC_LAB[:2] + (3, arms, 2), TASK[1])
            for jobs in ((0, 1, 2), (0, 1), (0, 2), (1, 2), (0,), (2,), ()):
                row = [("wash", 0, 1) if tool in jobs else ("out",) if tool == 1 else () for tool in range(3)]
                wrong = jobs[arms] if len(jobs) > arms else None
                self.check_jobs(((0, 0),) * 3, row, wrong, task)

    def test_task_first(self):
        for call in (standing_fault, is_standing, need_standing):
            with self.assertRaises(BadTask) as caught:
                call((DOC_LAB, 3), "x")
            self.assertEqual((caught.exception.word, caught.exception.place), ("samples", (1,)))


class MakingTest(unittest.TestCase):
    def test_start(self):
        self.assertEqual(start(EMPTY_TASK), ((), ((0, ()),)))
        self.assertEqual(start(TASK), (((0, 0), (0, 0), (0, 0)), ((0, ()), (0, ()))))
        for task in TASKS:
            self.assertIsNone(standing_fault(task, start(task)))

    def test_positions(self):
        self.assertEqual(positions(((), ())), ((0, 0),))
        self.assertEqual(positions(TASK[1][0]), ((0, 0), (1, 0), (1, 1), (1, 2), (2, 0)))
        self.assertEqual(positions(TASK[1][2]), ((0, 0), (1, 0), (2, 0), (2, 1), (3, 0)))
        for task in TASKS + [GREAT_TASK]:
            for sample in task[1]:
                self.assertEqual(positions(sample), tuple(literal_positions(sample)))

    def test_pairs_for(self):
        for task in TASKS:
            pairs = [(state, job) for state in range(len(task[0][0])) for job in literal_jobs(task)]
            idle = ((0, ()),) * task[0][2]
            rng = random.Random(6)
            for _ in range(6):
                rests = tuple(rng.choice(literal_positions(sample)) for sample in task[1])
                ahead = ()
                for tool in range(task[0][2]):
                    # (0, ()) is always right, so the tools behind can stand idle.
                    right = [pair for pair in pairs
                             if literal_stands(task, rests, ahead + (pair,) + idle[tool + 1:])]
                    self.assertEqual(pairs_for(task, rests, ahead), tuple(sorted(right)))
                    ahead = ahead + (rng.choice(right),)

    def test_pairs_for_the_greatest(self):
        found = pairs_for(GREAT_TASK, ((1, 0), (0, 0), (2, 3), (4, 0)), ())
        self.assertEqual(found[:3], ((0, ()), (0, ("out",)), (0, ("step", 1, 1))))
        self.assertEqual(list(found), sorted(set(found)))
        self.assertEqual({state for state, _ in found}, set(range(8)))
        self.assertIn((7, ("wash", 2, 5)), found)
        self.assertNotIn((0, ("wash", 0, 1)), found)
        self.assertEqual(len(GREAT_LAB[0]), 8)


if __name__ == "__main__":
    unittest.main()
