"""[804], [805]: what a HOUSE does at EVENTS, and what it tells."""

import random
import unittest

from tests.examples import (
    CLEAN_SAMPLE, DIRTY_SAMPLE, DOC_LAB, EMPTY_SLOT, HOUSE_LAB, LEAST_LAB, LONG_SAMPLE, LUCK_LAB, MANY_STANDINGS,
    MANY_TRIPLES, NEVER_RIGHT, NO_TUPLES, SHORT_SAMPLE, STEP_LAB, ZONE_SAMPLE, LiteralHouse, changed, house_runs,
    near_values, refused, wash_task)
from washedarms.dues import can_be_kept
from washedarms.errors import (
    BadEvent, BadHouse, BadLateness, BadNumber, BadSample, BadState, BadTool, TooGreat)
from washedarms.forms import start
from washedarms.housemoves import house_latenesses, house_move
from washedarms.houses import house_faults, house_new, house_task
from washedarms.housing import house_step
from washedarms.tasks import is_task

STEPS = [(house, event, words) for _, rows, _ in house_runs() for house, event, words in rows]


def after_events(lab, *events):
    """The HOUSE behind some EVENTS from the beginning on, and all words that were told."""
    house, told = house_new(lab), []
    for event in events:
        house, words = house_step(house, event)
        told.append(words)
    return house, told


class RunsTest(unittest.TestCase):
    def test_by_the_words(self):
        found = set()
        for _, rows, last in house_runs():
            behind = [house for house, _, _ in rows[1:]] + [last]
            for (house, event, words), other in zip(rows, behind):
                self.assertEqual(house_step(house, event), (other, words))
                self.assertEqual(house_faults(other), ())
                found.add((event[0],) + tuple(word[0] for word in words[:2]))
        self.assertLessEqual({
            ("ask", "full"), ("ask", "refused"), ("ask", "promised"), ("tick",), ("tick", "done"),
            ("tick", "done", "done"), ("waive", "free"), ("take", "taken"), ("take", "running"), ("take", "needed"),
            ("break",), ("break", "back"), ("break", "back", "back"), ("break", "spoilt"), ("break", "spoilt", "back"),
            ("mend", "mended")}, found)

    def test_promises_are_kept(self):
        """[805]: each promised sample is done within its DUE, unless it is waived or taken, or a tool breaks."""
        kept = 0
        for _, rows, _ in house_runs():
            promises, ticks = {}, 0
            for _, event, words in rows:
                ticks += event[0] == "tick"
                for word in words:
                    if word[0] == "promised":
                        promises[word[1]] = ticks + word[2]
                    elif word[0] == "done" and word[1] in promises:
                        self.assertLessEqual(ticks, promises.pop(word[1]))
                        kept += 1
                    elif word[0] in ("free", "taken", "spoilt", "back"):
                        self.assertTrue(word[0] not in ("spoilt", "back") or event[0] == "break")
                        promises.pop(word[1], None)
                self.assertTrue(all(ticks < due for due in promises.values()))
        self.assertGreater(kept, 60)

    def test_whatever_comes_late(self):
        """All LATENESSES from some HOUSES on, until nothing is promised: no promise is missed."""
        for house, _, _ in STEPS[::23]:
            self.go_on(house, {number: house[3][slot] for number, slot in house[4] if house[3][slot] > -1}, 0, {})

    def go_on(self, house, left, ticks, seen):
        if not left or house in seen:
            return
        seen[house] = True
        for late in house_latenesses(house):
            behind, words = house_step(house, ("tick", late))
            still = dict(left)
            for _, number in words:
                if number in still:
                    self.assertLessEqual(ticks + 1, still.pop(number))
            self.go_on(behind, still, ticks + 1, seen)

    def test_waived_promises_leave_more_room(self):
        for house, event, words in STEPS:
            if event[0] == "ask" and words[0][0] == "promised":
                for number, slot in house[4]:
                    freer = house_step(house, ("waive", number))[0]
                    told = house_step(freer, event)[1]
                    self.assertEqual(told[0][0], "promised")
                    self.assertLessEqual(told[0][2], words[0][2])

    def test_what_is_taken_back(self):
        """Behind a break just those are taken back that can't be kept with those told earlier that stay."""
        for house, event, words in STEPS:
            if event[0] != "break":
                continue
            behind = house_step(house, event)[0]
            gone = {word[1] for word in words if word[0] == "spoilt"}
            task, standing, _ = house_task(behind)
            slots = tuple(EMPTY_SLOT if behind[1][slot] == EMPTY_SLOT else sample
                          for slot, sample in enumerate(house[1]))
            rests = tuple(rest if slots[slot] != EMPTY_SLOT else (0, 0) for slot, rest in enumerate(house[2][0]))
            dues = [-1] * 4
            for number, slot in house[4]:
                if house[3][slot] > -1 and number not in gone:
                    dues[slot] = house[3][slot]
                    stays = can_be_kept((task[0], slots), (rests, standing[1]), tuple(dues))
                    self.assertEqual(stays, ("back", number) not in words)
                    dues[slot] = dues[slot] if stays else -1
            self.assertEqual(behind[3], tuple(dues))


class ByHandTest(unittest.TestCase):
    def test_asking(self):
        house, told = after_events(STEP_LAB, ("ask", DIRTY_SAMPLE), ("ask", CLEAN_SAMPLE), ("ask", DIRTY_SAMPLE),
                                   ("ask", CLEAN_SAMPLE), ("ask", DIRTY_SAMPLE))
        self.assertEqual(told, [(("promised", 0, 1),), (("promised", 1, 3),), (("promised", 2, 4),),
                                (("promised", 3, 6),), (("full",),)])
        self.assertEqual(house, (STEP_LAB, (DIRTY_SAMPLE, CLEAN_SAMPLE) * 2, (((0, 0),) * 4, ((0, ()),)), (1, 3, 4, 6),
                                 ((0, 0), (1, 1), (2, 2), (3, 3)), 4))
        # Nothing changes without a promise.
        self.assertEqual(house_step(house, ("ask", DIRTY_SAMPLE)), (house, (("full",),)))
        alone, told = after_events(STEP_LAB, ("ask", DIRTY_SAMPLE), ("ask", DIRTY_SAMPLE))
        self.assertEqual(told[1], (("refused",),))
        self.assertEqual(alone[5], 1)
        # The least empty slot is taken, NUMBERS go on.
        taken = house_step(house, ("take", 3))[0]
        taken = house_step(house_step(taken, ("tick", ((0, 1),)))[0], ("ask", CLEAN_SAMPLE))
        self.assertEqual(taken[1], (("promised", 4, 5),))
        self.assertEqual(taken[0][4], ((1, 1), (2, 2), (4, 0)))
        self.assertEqual(taken[0][1], (CLEAN_SAMPLE, CLEAN_SAMPLE, DIRTY_SAMPLE, EMPTY_SLOT))

    def test_dues_of_60(self):
        step = (0, (0,), (), 6, 6)
        four = ((step,) * 4, (None,) * 4)
        two, one, three = ((step,) * 2, (None,) * 2), ((step,), (None,)), ((step,) * 3, (None,) * 3)
        house, told = after_events(LEAST_LAB, ("ask", four), ("ask", four), ("ask", three), ("ask", two))
        self.assertEqual(told, [(("promised", 0, 24),), (("promised", 1, 48),), (("refused",),),
                                (("promised", 2, 60),)])
        self.assertEqual(house[3], (24, 48, 60, -1))
        self.assertEqual(house_step(house, ("ask", one)), (house, (("refused",),)))
        house, told = after_events(LEAST_LAB, ("ask", four), ("ask", four), ("ask", one), ("take", 0), ("ask", three))
        self.assertEqual(told[2:], [(("promised", 2, 54),), (("taken", 0),), (("promised", 3, 18),)])

    def test_ticks(self):
        house, told = after_events(HOUSE_LAB, ("ask", LONG_SAMPLE), ("tick", ()), ("tick", ((1, 1),)),
                                   ("tick", ((0, 0),)))
        self.assertEqual(told, [(("promised", 0, 3),), (), (), (("done", 0),)])
        self.assertEqual(house, house_new(HOUSE_LAB)[:2] + ((((0, 0),) * 4, ((0, ()), (1, ()))), (-1,) * 4, (), 1))
        # A sample that is free is done, too.
        house, told = after_events(HOUSE_LAB, ("ask", SHORT_SAMPLE), ("waive", 0), ("tick", ((1, 0),)))
        self.assertEqual(told[1:], [(("free", 0),), (("done", 0),)])

    def test_done_ones_ascend_by_their_numbers(self):
        # The slot 0 has the greater NUMBER.
        tools = changed(HOUSE_LAB, (3,), 2)
        first, other = (((0, (0,), (), 1, 1),), (None,)), (((0, (1,), (), 1, 1),), (None,))
        house, told = after_events(tools, ("ask", first), ("ask", other), ("take", 0), ("ask", first))
        self.assertEqual(house[4], ((1, 1), (2, 0)))
        self.assertEqual(house_step(house, ("tick", ((0, 1), (1, 1))))[1], (("done", 1), ("done", 2)))

    def test_waiving(self):
        house, _ = after_events(HOUSE_LAB, ("ask", LONG_SAMPLE), ("tick", ((1, 1),)), ("ask", SHORT_SAMPLE))
        waits = changed(changed(house, (2, 0, 0), (1, 1)), (3, 0), 2)
        self.assertEqual(house_faults(waits), ())
        behind, words = house_step(waits, ("waive", 0))
        self.assertEqual(words, (("free", 0),))
        self.assertEqual(behind[1][0], (LONG_SAMPLE[0], (None, None)))
        self.assertEqual((behind[2][0][0], behind[3][0]), ((1, 0), -1))
        self.assertEqual(behind[4:], waits[4:])
        self.assertEqual(house_step(behind, ("waive", 0)), (behind, (("free", 0),)))

    def test_taking(self):
        house, _ = after_events(STEP_LAB, ("ask", DIRTY_SAMPLE), ("ask", CLEAN_SAMPLE), ("ask", DIRTY_SAMPLE))
        self.assertEqual(house_step(house, ("take", 1)), (house, (("needed", 1),)))
        self.assertEqual(house_step(house, ("take", 2))[1], (("taken", 2),))
        # Also a free sample may be needed, and one that is needed by a free one alone is not.
        free = house_step(house, ("waive", 1))[0]
        self.assertEqual(house_step(free, ("take", 1)), (free, (("needed", 1),)))
        free = house_step(house, ("waive", 2))[0]
        self.assertEqual(house_step(free, ("take", 1))[1], (("taken", 1),))
        runs, told = after_events(STEP_LAB, ("ask", CLEAN_SAMPLE), ("tick", ()))
        self.assertEqual(house_step(runs, ("take", 0)), (runs, (("running", 0),)))
        left = house_step(house, ("take", 2))[0]
        self.assertEqual(left, (STEP_LAB, (DIRTY_SAMPLE, CLEAN_SAMPLE, EMPTY_SLOT, EMPTY_SLOT), house[2],
                                (1, 3, -1, -1), ((0, 0), (1, 1)), 3))

    def test_breaking(self):
        house, _ = after_events(HOUSE_LAB, ("ask", LONG_SAMPLE), ("ask", SHORT_SAMPLE))
        # An idle tool that is needed: both need it, or can't be in time.
        behind, words = house_step(house, ("break", 1))
        self.assertEqual(words, (("back", 0), ("back", 1)))
        self.assertEqual(behind[2][1], ((0, ()), (0, ("out",))))
        self.assertEqual(behind[3], (-1,) * 4)
        # The tool that does a step: its sample is spoilt, and leaves.
        runs = house_step(house, ("tick", ()))[0]
        self.assertEqual(runs[2][1], ((0, ()), (0, ("step", 0, 1))))
        behind, words = house_step(runs, ("break", 1))
        self.assertEqual(words, (("spoilt", 0), ("back", 1)))
        self.assertEqual(behind[1], (EMPTY_SLOT, (SHORT_SAMPLE[0], (None,)), EMPTY_SLOT, EMPTY_SLOT))
        self.assertEqual(behind[4], ((1, 1),))
        behind, words = house_step(runs, ("break", 0))
        self.assertEqual(words, (("back", 0),))
        # A tool that washes.
        dirty = changed(changed(house_new(HOUSE_LAB), (2, 1, 1), (1, ("wash", 0, 1))), (2, 1, 0), (1, ("wash", 0, 1)))
        behind, words = house_step(dirty, ("break", 1))
        self.assertEqual((words, behind[2][1]), ((), ((1, ("wash", 0, 1)), (1, ("out",)))))
        behind, words = house_step(behind, ("mend", 1, 0))
        self.assertEqual((words, behind[2][1]), ((("mended", 1),), ((1, ("wash", 0, 1)), (0, ()))))
        behind, words = house_step(house_step(behind, ("break", 0))[0], ("mend", 0, 1))
        self.assertEqual((words, behind[2][1]), ((("mended", 0),), ((1, ()), (0, ()))))

    def test_earlier_promises_stay(self):
        # One of two tools is enough for one of both samples: the one told earlier stays, in whichever slot it is.
        lab = (((0,),), (), 2, 2, 0)
        sample = (((0, (0, 1), (), 2, 2),), (None,))
        house, told = after_events(lab, ("ask", sample), ("ask", sample), ("take", 0), ("ask", sample))
        self.assertEqual(house[4], ((1, 1), (2, 0)))
        self.assertEqual(told[-1], (("promised", 2, 2),))
        behind, words = house_step(house, ("break", 0))
        self.assertEqual(words, (("back", 2),))
        self.assertEqual(behind[3], (-1, 2, -1, -1))

    def test_count_at_its_ends(self):
        house = changed(house_new(HOUSE_LAB), (5,), 2 ** 60 - 1)
        behind, words = house_step(house, ("ask", SHORT_SAMPLE))
        self.assertEqual(words, (("promised", 2 ** 60 - 1, 1),))
        self.assertEqual((behind[4], behind[5]), (((2 ** 60 - 1, 0),), 2 ** 60))
        self.assertEqual(house_faults(behind), ())
        self.assertEqual(house_step(behind, ("waive", 2 ** 60 - 1))[1], (("free", 2 ** 60 - 1),))
        # By its words COUNT grows by one there, too.
        self.assertEqual(house_step(behind, ("ask", SHORT_SAMPLE))[0][5], 2 ** 60 + 1)


class ErrorsTest(unittest.TestCase):
    def setUp(self):
        self.house = after_events(HOUSE_LAB, ("ask", LONG_SAMPLE), ("tick", ((1, 1),)), ("ask", ZONE_SAMPLE))[0]

    def test_wrong_houses(self):
        for wrong in NO_TUPLES:
            refused(self, BadHouse, {"number": 1}, house_step, wrong, "x")
        refused(self, BadHouse, {"number": 2}, house_step, changed(self.house, (4,), ()), "x")
        self.assertEqual(house_step(changed(self.house, (3, 1), 1), ("ask", LONG_SAMPLE))[1][0][0], "refused")

    def test_wrong_events(self):
        for wrong in NO_TUPLES + ((), ("Ask", LONG_SAMPLE), (None,), (b"ask", 1), ("done", 0), (("ask",),), ("",),
                                  ["ask", LONG_SAMPLE], (1, LONG_SAMPLE), (True,), ("ask ", LONG_SAMPLE)):
            refused(self, BadEvent, {"word": None}, house_step, self.house, wrong)
        for word, many in (("ask", 2), ("tick", 2), ("waive", 2), ("take", 2), ("break", 2), ("mend", 3)):
            for length in range(1, 6):
                if length != many:
                    refused(self, BadEvent, {"word": word}, house_step, self.house, (word,) + (0,) * (length - 1))

    def test_wrong_samples(self):
        rng = random.Random(820)
        wrong = [EMPTY_SLOT, ((LONG_SAMPLE[0] * 3)[:5], (None,) * 5), (LONG_SAMPLE[0], (None,)), LONG_SAMPLE[0]]
        wrong += list(NO_TUPLES) + [value for value in near_values(LONG_SAMPLE, rng, 15)
                                    if not is_task((HOUSE_LAB, (value,)))]
        full = after_events(STEP_LAB, *[("ask", CLEAN_SAMPLE)] * 4)[0]
        for value in wrong:
            refused(self, BadSample, {"value": value}, house_step, self.house, ("ask", value))
            # Ahead of "full", too.
            refused(self, BadSample, {"value": value}, house_step, full, ("ask", value))
        self.assertEqual(house_step(full, ("ask", CLEAN_SAMPLE))[1], (("full",),))

    def test_wrong_latenesses(self):
        task, standing, _ = LiteralHouse(self.house).claim()
        right = house_latenesses(self.house)
        self.assertGreater(len(right), 1)
        for late in right:
            house_step(self.house, ("tick", late))
            for wrong in near_values(late, random.Random(821), 4) if late else ():
                if wrong not in right or any(type(value) is bool for pair in wrong for value in pair):
                    refused(self, BadLateness, {"value": wrong}, house_step, self.house, ("tick", wrong))
        for wrong in NEVER_RIGHT + NO_TUPLES + (((0, 0), (0, 0)), ((1, 5),), ((True, 1),)):
            refused(self, BadLateness, {"value": wrong}, house_step, self.house, ("tick", wrong))
        # If no MOVE keeps, this is told first.
        for late in (right[0], "x"):
            refused(self, BadHouse, {"number": 3}, house_step, changed(self.house, (3, 1), 1), ("tick", late))

    def test_wrong_numbers(self):
        for word in ("waive", "take"):
            for wrong in NEVER_RIGHT + NO_TUPLES + (2, -1, None, (0,)):
                if type(wrong) is not int or wrong not in (0, 1):
                    refused(self, BadNumber, {"value": wrong}, house_step, self.house, (word, wrong))
            # A NUMBER of a sample that has left is none.
            left = house_step(self.house, ("take", 1))[0]
            refused(self, BadNumber, {"value": 1}, house_step, left, (word, 1))

    def test_wrong_tools_and_states(self):
        out = house_step(self.house, ("break", 0))[0]
        for wrong in NEVER_RIGHT + NO_TUPLES + (2, -1, None, (0,)):
            if type(wrong) is not int or wrong not in (0, 1):
                for house in (self.house, out):
                    refused(self, BadTool, {"value": wrong}, house_step, house, ("break", wrong))
                    refused(self, BadTool, {"value": wrong}, house_step, house, ("mend", wrong, "x"))
                refused(self, BadState, {"value": wrong}, house_step, out, ("mend", 0, wrong))
        refused(self, BadTool, {"value": 0}, house_step, out, ("break", 0))
        refused(self, BadTool, {"value": 0}, house_step, self.house, ("mend", 0, 0))
        refused(self, BadTool, {"value": 1}, house_step, out, ("mend", 1, "x"))
        refused(self, BadState, {"value": 2}, house_step, out, ("mend", 0, 2))

    def test_great_searches(self):
        for task, most in ((MANY_STANDINGS[1], 20000), (MANY_TRIPLES[1], 200000)):
            house = house_new(task[0])
            refused(self, TooGreat, {"most": most}, house_step, house, ("ask", task[1][0]))
            slots = task[1] + (EMPTY_SLOT,) * 3
            asked = (task[0], slots, start((task[0], slots)), (60, -1, -1, -1), ((0, 0),), 1)
            refused(self, TooGreat, {"most": most}, house_step, asked, ("tick", ()))
            # Without a promise nothing is searched for.
            self.assertEqual(house_step(asked, ("take", 0))[1], (("taken", 0),))
            free = house_step(asked, ("waive", 0))[0]
            self.assertEqual(house_step(free, ("break", 1))[1], ())
            self.assertEqual(house_move(free), ((0, "step", 0),))
        # Behind the break there is left what is too great; nothing changes then.
        task = wash_task(8, (6, 6, 6), tools=3, high=2)
        slots = task[1] + (EMPTY_SLOT,) * 3
        asked = (task[0], slots, start((task[0], slots)), (60, -1, -1, -1), ((0, 0),), 1)
        refused(self, TooGreat, {"most": 20000}, house_step, asked, ("break", 2))

    def test_other_laboratories(self):
        for lab in (DOC_LAB, LEAST_LAB, LUCK_LAB, changed(DOC_LAB, (3,), 1), changed(LEAST_LAB, (3,), 3)):
            house, told = after_events(lab, ("tick", ()), ("break", 0), ("mend", 0, 0))
            self.assertEqual(house, house_new(lab))
            self.assertEqual(told, [(), (), (("mended", 0),)])
            # Each state of the LAB may be told, and no other one; each tool may break.
            for tool in range(lab[2]):
                out = house_step(house, ("break", tool))[0]
                for state in range(len(lab[0])):
                    self.assertEqual(house_step(out, ("mend", tool, state))[0][2][1][tool], (state, ()))
                refused(self, BadState, {"value": len(lab[0])}, house_step, out, ("mend", tool, len(lab[0])))
            refused(self, BadTool, {"value": lab[2]}, house_step, house, ("break", lab[2]))


if __name__ == "__main__":
    unittest.main()
