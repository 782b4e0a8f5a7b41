"""[905]: who is to blame for a missed promise."""

import random
import unittest

from tests.examples import (
    CLEAN_SAMPLE, DIRTY_SAMPLE, HOUSE_LAB, LONG_SAMPLE, LiteralHouse, MANY_STANDINGS, NO_TUPLES, SHORT_SAMPLE, STEP_LAB,
    house_logs, idle_logs, literal_can_be_kept, literal_claim, literal_kept, literal_replay, literal_ticks, other_logs,
    refused)
from washedarms.blames import blame, kept_row
from washedarms.duechecks import is_due_plan, is_due_table
from washedarms.duepapers import due_plan, due_table
from washedarms.errors import BadEntry, BadLab, TooGreat

TICK = (("tick", (), ()), ())
# Promises that a house keeps, and what it does by and by: ENTRIES with a missed promise at the end.
LONG = (("ask", LONG_SAMPLE), (("promised", 0, 4),))
MISSED = (LONG, TICK, TICK, TICK, TICK)


def missed_logs():
    """LOGS with a missed promise: those of our house with its MOVES changed, and some with other things changed."""
    rng = random.Random(930)
    found = []
    for lab, entries, _ in house_logs():
        tries = 0
        for other in other_logs(rng, lab, entries, 60) + idle_logs(rng, lab, entries):
            fault = literal_replay(lab, other)[1]
            if fault is not None and fault[1] in ("late", "window") and tries < 6:
                found.append((lab, other))
                tries += 1
    return found


LOGS = missed_logs()


class BlameTest(unittest.TestCase):
    def test_by_the_words(self):
        kinds = {}
        for lab, entries in LOGS:
            houses, (index, why) = literal_replay(lab, entries)
            kept = tuple(literal_can_be_kept(*LiteralHouse(house).claim()) for house in houses)
            self.assertEqual(kept_row(lab, entries), kept)
            last = max(number for number in range(index + 1) if kept[number])
            told, plan, table = blame(lab, entries)
            self.assertEqual(told, last)
            claim = LiteralHouse(houses[last]).claim()
            self.assertTrue(is_due_plan(*claim, plan))
            self.assertEqual(plan, due_plan(*claim))
            if last == index:
                self.assertIsNone(table)
            else:
                claim = LiteralHouse(houses[last + 1]).claim()
                self.assertTrue(is_due_table(*claim, table))
                self.assertEqual(table, due_table(*claim))
            self.check_deed(houses[last], entries[last])
            key = entries[last][0][0], why, last == index
            kinds[key] = kinds.get(key, 0) + 1
        self.assertLessEqual({("tick", "late", True), ("tick", "late", False), ("tick", "window", False),
                              ("ask", "late", False)}, set(kinds))

    def check_deed(self, house, entry):
        """It is a tick whose MOVE does not keep, a promise, "taken", or a break."""
        event, words = entry
        if event[0] == "tick":
            task, standing, dues = LiteralHouse(house).claim()
            self.assertFalse(all(literal_kept(task, literal_claim(task, dues, behind))
                                 for _, behind in literal_ticks(task, standing, event[1])))
        else:
            self.assertIn((event[0], words[0][0] if words else ""), (
                ("ask", "promised"), ("take", "taken"), ("break", ""), ("break", "back"), ("break", "spoilt")))

    def test_no_missed_promise(self):
        rng = random.Random(931)
        whys = set()
        for lab, entries, houses in house_logs():
            self.assertIsNone(blame(lab, entries))
            self.assertEqual(kept_row(lab, entries), (True,) * len(houses))
            for other in other_logs(rng, lab, entries, 10):
                fault = literal_replay(lab, other)[1]
                if fault is None or fault[1] not in ("late", "window"):
                    self.assertIsNone(blame(lab, other))
                    whys.add(fault and fault[1])
        self.assertGreater(len(whys), 4)
        self.assertIsNone(blame(HOUSE_LAB, ()))
        self.assertEqual(kept_row(HOUSE_LAB, ()), (True,))

    def test_by_hand(self):
        # With the first tick it could still be done in time; the second one lets it be late.
        self.assertEqual(kept_row(HOUSE_LAB, MISSED), (True, True, True, False, False))
        told, plan, table = blame(HOUSE_LAB, MISSED)
        self.assertEqual(told, 2)
        self.assertIsNotNone(table)
        # A promise that could not be kept.
        wrong = (("ask", LONG_SAMPLE), (("promised", 0, 2),))
        self.assertEqual(kept_row(HOUSE_LAB, (wrong, TICK, TICK)), (True, False, False))
        self.assertEqual(blame(HOUSE_LAB, (wrong, TICK, TICK))[0], 0)
        self.assertEqual(blame(HOUSE_LAB, (wrong, TICK, TICK))[1], ())
        # Missed at once: there is no HOUSE behind it.
        short = (("ask", SHORT_SAMPLE), (("promised", 0, 1),))
        told = blame(HOUSE_LAB, (short, TICK))
        self.assertEqual((told[0], told[2]), (1, None))
        # "taken" of what is needed, and a break that takes nothing back.
        rows = tuple((("ask", sample), (("promised", number, 9),)) for number, sample in enumerate(
            (DIRTY_SAMPLE, CLEAN_SAMPLE, DIRTY_SAMPLE)))
        dirty = (("tick", ((0, "step", 0),), ((0, 1),)), (("done", 0),))
        take = (("take", 1), (("taken", 1),))
        self.assertEqual(blame(STEP_LAB, rows + (take, dirty) + (TICK,) * 8)[0], 3)
        self.assertEqual(blame(STEP_LAB, rows + ((("break", 0), ()),) + (TICK,) * 9)[0], 3)
        # What can no longer be kept may be kept again later: the last ENTRY is told.
        late = (("ask", DIRTY_SAMPLE), (("promised", 0, 60),)), (("ask", DIRTY_SAMPLE), (("promised", 1, 9),))
        free = (("waive", 0), (("free", 0),))
        self.assertEqual(kept_row(STEP_LAB, late + (free,)), (True, True, False, True))
        self.assertEqual(blame(STEP_LAB, late + (free,) + (TICK,) * 9)[0], 11)

    def test_an_unlucky_house_that_was_lucky(self):
        # Two ticks were left for a step of 1 to 2 ticks and another one: it could be kept again as the first one
        # ended soon, and was lost then.
        lab = (((0,),), (), 1, 1, 0)
        sample = (((0, (0,), (), 1, 2), (0, (0,), (), 1, 1)), (None, None))
        ask, begin = (("ask", sample), (("promised", 0, 2),)), (("tick", ((0, "step", 0),), ((0, 0),)), ())
        self.assertEqual(kept_row(lab, (ask, begin, TICK)), (True, False, True))
        self.assertEqual(blame(lab, (ask, begin, TICK))[0], 2)


class ErrorsTest(unittest.TestCase):
    def test_errors_in_their_order(self):
        for call in (kept_row, blame):
            for wrong in NO_TUPLES:
                refused(self, BadLab, {"word": "lab", "place": ()}, call, wrong, "x")
                refused(self, BadEntry, {"index": None, "why": "form"}, call, HOUSE_LAB, wrong)
                refused(self, BadEntry, {"index": 5, "why": "form"}, call, HOUSE_LAB, MISSED + (wrong,))
            refused(self, TooGreat, {"most": 400}, call, HOUSE_LAB, (TICK,) * 401)
            task = MANY_STANDINGS[1]
            short = (((0, (0,), (), 1, 1),), (None,))
            refused(self, TooGreat, {"most": 20000}, call, task[0], (
                (("ask", task[1][0]), (("promised", 0, 60),)), (("ask", short), (("promised", 1, 1),)), TICK))
        self.assertEqual(kept_row(HOUSE_LAB, (TICK,) * 400), (True,) * 401)


if __name__ == "__main__":
    unittest.main()
