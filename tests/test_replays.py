"""[901], [902]: the form of a LOG, and LOGS replayed."""

import random
import unittest

from tests.examples import (
    CLEAN_SAMPLE, DIRTY_SAMPLE, EMPTY_SLOT, HOUSE_LAB, LEAST_LAB, LONG_SAMPLE, NEVER_RIGHT, NO_TUPLES, SHORT_SAMPLE,
    STEP_LAB, changed, house_logs, idle_logs, literal_is_entry, literal_replay, near_values, other_logs, refused)
from washedarms.errors import BadEntry, BadLab, TooGreat
from washedarms.houses import house_faults, house_new
from washedarms.replays import house_after, replay_fault, replayed

CALLS = (replay_fault, replayed, house_after)
TICK = (("tick", (), ()), ())
# One ENTRY of each sort and answer, in the form of a LOG of HOUSE_LAB.
ENTRIES = (
    (("ask", LONG_SAMPLE), (("full",),)), (("ask", LONG_SAMPLE), (("refused",),)),
    (("ask", SHORT_SAMPLE), (("promised", 0, 60),)), (("ask", SHORT_SAMPLE), (("promised", 10 ** 18 - 1, 1),)),
    TICK, (("tick", ((0, "step", 3), (1, "wash", 0)), ((0, 1), (1, 0))), (("done", 0), ("done", 10 ** 18 - 1))),
    (("waive", 0), (("free", 0),)), (("take", 7), (("taken", 7),)), (("take", 7), (("needed", 7),)),
    (("take", 10 ** 18 - 1), (("running", 10 ** 18 - 1),)), (("break", 1), ()), (("break", 0), (("spoilt", 3),)),
    (("break", 0), (("spoilt", 3), ("back", 1), ("back", 0))), (("break", 0), (("back", 5), ("back", 4))),
    (("mend", 1, 1), (("mended", 1),)))


def is_told(entry):
    """Whether an ENTRY alone has the form of one: it is replayed, whatever comes of it."""
    try:
        replay_fault(HOUSE_LAB, (entry,))
    except BadEntry as bad:
        assert (bad.index, bad.why) == (0, "form")
        return False
    return True


class FormTest(unittest.TestCase):
    def test_right_entries(self):
        for entry in ENTRIES:
            self.assertTrue(literal_is_entry(HOUSE_LAB, entry))
            self.assertTrue(is_told(entry), entry)

    def test_near_values(self):
        rng = random.Random(900)
        found = [0, 0]
        for entry in ENTRIES * 12:
            for value in near_values(entry, rng, 8):
                right = literal_is_entry(HOUSE_LAB, value)
                self.assertIs(is_told(value), right, value)
                found[right] += 1
        self.assertGreater(found[False], 2000)
        self.assertGreater(found[True], 150)

    def test_by_hand(self):
        for value in NO_TUPLES + NEVER_RIGHT:
            self.assertFalse(is_told(value))
            for place in ((0,), (1,), (0, 0)):
                for entry in ENTRIES:
                    self.assertFalse(is_told(changed(entry, place, value)), (entry, place, value))
            for entry in ENTRIES[6:]:
                if not (type(value) is int and 0 <= value < 2):
                    self.assertFalse(is_told(changed(entry, (0, 1), value)))
        for event, words in (
                (("ask", LONG_SAMPLE), ()), (("ask", LONG_SAMPLE), (("full",), ("full",))),
                (("ask", EMPTY_SLOT), (("refused",),)), (("ask", LONG_SAMPLE), (("promised", 0, 0),)),
                (("ask", LONG_SAMPLE), (("promised", 0, 61),)), (("ask", LONG_SAMPLE), (("promised", 10 ** 18, 1),)),
                (("ask", LONG_SAMPLE), (("promised", -1, 1),)), (("ask", LONG_SAMPLE), (("promised", 0),)),
                (("ask", LONG_SAMPLE, 0), (("full",),)), (("tick", ()), ()), (("tick", (), (), ()), ()),
                (("tick", ((2, "step", 0),), ()), ()), (("tick", ((0, "step", 4),), ()), ()),
                (("tick", ((0, "wash", 1),), ()), ()), (("tick", ((0, "step", -1),), ()), ()),
                (("tick", ((0, "Step", 0),), ()), ()), (("tick", ((0, "step"),), ()), ()),
                (("tick", ((1, "step", 0), (0, "step", 1)), ()), ()),
                (("tick", ((0, "step", 0), (0, "step", 1)), ()), ()),
                (("tick", (), ((0, 2),)), ()), (("tick", (), ((2, 0),)), ()), (("tick", (), ((1, 0), (0, 0))), ()),
                (("tick", (), ((0, 0), (0, 1))), ()), (("tick", (), ((0, 0, 0),)), ()),
                (("tick", (), ()), (("done", 1), ("done", 0))), (("tick", (), ()), (("done", 1), ("done", 1))),
                (("tick", (), ()), (("done", 10 ** 18),)), (("tick", (), ()), (("free", 1),)),
                (("waive", 0), (("free", 1),)), (("waive", 0), ()), (("waive", 0), (("taken", 0),)),
                (("waive", 10 ** 18), (("free", 10 ** 18),)), (("take", 0), (("free", 0),)),
                (("take", 0), (("taken", 1),)), (("take", 0), (("taken", 0), ("taken", 0))),
                (("break", 2), ()), (("break", 0), (("back", 1), ("spoilt", 2))), (("break", 0), (("back", 1),) * 2),
                (("break", 0), (("spoilt", 1), ("back", 1))), (("break", 0), (("spoilt", 1), ("spoilt", 2))),
                (("break", 0), (("done", 1),)), (("mend", 2, 0), (("mended", 2),)), (("mend", 0, 2), (("mended", 0),)),
                (("mend", 0, 0), (("mended", 1),)), (("mend", 0, 0), ()), (("mend", 0), (("mended", 0),)),
                (("mend", 0, 0), (("mended", False),)), (("waive", 1), (("free", True),))):
            self.assertFalse(is_told((event, words)), (event, words))
        # Where there are no washes, none can be begun.
        with self.assertRaises(BadEntry):
            replay_fault(LEAST_LAB, ((("tick", ((0, "wash", 0),), ()), ()),))

    def test_errors_in_their_order(self):
        for call in CALLS:
            for wrong in NO_TUPLES:
                refused(self, BadLab, {"word": "lab", "place": ()}, call, wrong, "x")
                refused(self, BadEntry, {"index": None, "why": "form"}, call, HOUSE_LAB, wrong)
                refused(self, BadEntry, {"index": 2, "why": "form"}, call, HOUSE_LAB, (TICK, TICK, wrong, "x"))
            refused(self, BadEntry, {"index": None, "why": "form"}, call, HOUSE_LAB, [TICK])
            # More than 400 are not looked at.
            refused(self, TooGreat, {"most": 400}, call, HOUSE_LAB, (0,) * 401)
            refused(self, BadEntry, {"index": 0, "why": "form"}, call, HOUSE_LAB, (0,) * 400)
            refused(self, TooGreat, {"most": 400}, call, HOUSE_LAB, (TICK,) * 401)
            # What has not the form is told ahead of what cannot be.
            refused(self, BadEntry, {"index": 3, "why": "form"}, call, HOUSE_LAB,
                    (TICK, (("waive", 5), (("free", 5),)), TICK, TICK + ((),)))
        self.assertIsNone(replay_fault(HOUSE_LAB, (TICK,) * 400))
        self.assertEqual(replayed(HOUSE_LAB, (TICK,) * 400), (house_new(HOUSE_LAB),) * 401)
        self.assertEqual(house_after(HOUSE_LAB, ()), house_new(HOUSE_LAB))


class ReplayTest(unittest.TestCase):
    def check(self, lab, entries):
        houses, fault = literal_replay(lab, entries)
        self.assertEqual(replay_fault(lab, entries), fault)
        self.assertEqual(replayed(lab, entries), houses)
        if fault is None:
            self.assertEqual(house_after(lab, entries), houses[-1])
        else:
            refused(self, BadEntry, {"index": fault[0], "why": fault[1]}, house_after, lab, entries)
        return fault

    def test_logs_of_our_house(self):
        for lab, entries, houses in house_logs():
            self.assertIsNone(self.check(lab, entries))
            self.assertEqual(replayed(lab, entries), houses)
            self.assertEqual(house_after(lab, entries[:20]), houses[20])

    def test_other_logs(self):
        rng = random.Random(901)
        words = {}
        for lab, entries, _ in house_logs():
            for other in other_logs(rng, lab, entries, 60) + idle_logs(rng, lab, entries):
                fault = self.check(lab, other)
                if fault is not None:
                    key = other[fault[0]][0][0], fault[1]
                    words[key] = words.get(key, 0) + 1
                for house in replayed(lab, other)[::25]:
                    self.assertIn(house_faults(house), ((), (3,)))
        self.assertLessEqual({("ask", "slots"), ("ask", "number"), ("tick", "move"), ("tick", "lateness"),
                              ("tick", "late"), ("tick", "window"), ("tick", "number"), ("waive", "number"),
                              ("take", "number"), ("take", "running"), ("break", "tool"), ("break", "number"),
                              ("mend", "tool")}, set(words))

    def fault_of(self, *entries, lab=HOUSE_LAB):
        return self.check(lab, entries)

    def test_asking(self):
        clean = ("ask", CLEAN_SAMPLE)
        four = [(clean, (("promised", number, 60),)) for number in range(4)]
        self.assertEqual(self.fault_of((clean, (("full",),)), lab=STEP_LAB), (0, "slots"))
        full, other = (clean, (("full",),)), (clean, (("refused",),))
        self.assertEqual(self.fault_of(*four, full, other, lab=STEP_LAB), (5, "slots"))
        self.assertEqual(self.fault_of(*four, (clean, (("promised", 9, 1),)), lab=STEP_LAB), (4, "slots"))
        self.assertEqual(self.fault_of(four[0], four[0], lab=STEP_LAB), (1, "number"))
        self.assertEqual(self.fault_of(four[1], lab=STEP_LAB), (0, "number"))
        # What is refused changes nothing, whether or not it could have been promised.
        self.assertIsNone(self.fault_of((clean, (("refused",),)), four[0], (clean, (("refused",),)), four[1],
                                        lab=STEP_LAB))
        # Nothing is searched for: what can't be kept may be promised.
        self.assertIsNone(self.fault_of((("ask", DIRTY_SAMPLE), (("promised", 0, 60),)),
                                        (("ask", DIRTY_SAMPLE), (("promised", 1, 60),)), lab=STEP_LAB))

    def test_ticks(self):
        ask = (("ask", LONG_SAMPLE), (("promised", 0, 2),))
        begin, end = ((1, "step", 0),), ((1, 1),)
        self.assertEqual(self.fault_of((("tick", begin, ()), ())), (0, "move"))
        self.assertEqual(self.fault_of(ask, (("tick", ((0, "step", 1),), ()), ())), (1, "move"))
        self.assertEqual(self.fault_of(ask, (("tick", begin, ((1, 0),)), ())), (1, "lateness"))
        self.assertEqual(self.fault_of(ask, (("tick", begin, ()), ()), TICK), (2, "lateness"))
        # Its DUE is over with the second tick, but it is done by then.
        good = (("tick", begin, end), ()), (("tick", ((0, "step", 0),), ((0, 0),)), (("done", 0),))
        self.assertIsNone(self.fault_of(ask, *good))
        self.assertEqual(self.fault_of(ask, good[0], (good[1][0], ())), (2, "number"))
        self.assertEqual(self.fault_of(ask, good[0], (good[1][0], (("done", 0), ("done", 1)))), (2, "number"))
        self.assertEqual(self.fault_of(ask, good[0], TICK), (2, "late"))
        self.assertEqual(self.fault_of(ask, TICK, TICK), (2, "late"))
        # A sample that is waived is never late.
        self.assertIsNone(self.fault_of(ask, (("waive", 0), (("free", 0),)), TICK, TICK, TICK))
        long = (("ask", LONG_SAMPLE), (("promised", 0, 9),))
        self.assertIsNone(self.fault_of(long, good[0], TICK, TICK))
        self.assertEqual(self.fault_of(long, good[0], TICK, TICK, TICK), (4, "window"))
        # Both at once: it is late first; words are looked at last of all.
        late = (("ask", LONG_SAMPLE), (("promised", 0, 4),))
        self.assertEqual(self.fault_of(late, good[0], TICK, TICK, TICK), (4, "late"))
        self.assertEqual(self.fault_of(long, good[0], TICK, TICK, (TICK[0], (("done", 0),))), (4, "window"))

    def test_waiving_and_taking(self):
        ask = (("ask", LONG_SAMPLE), (("promised", 0, 60),))
        begin = (("tick", ((1, "step", 0),), ()), ())
        self.assertEqual(self.fault_of((("waive", 0), (("free", 0),))), (0, "number"))
        for word in ("taken", "needed", "running"):
            self.assertEqual(self.fault_of(ask, (("take", 1), ((word, 1),))), (1, "number"))
            self.assertEqual(self.fault_of(ask, (("take", 0), ((word, 0),))),
                             (1, "running") if word == "running" else None)
            self.assertEqual(self.fault_of(ask, begin, (("take", 0), ((word, 0),))),
                             None if word == "running" else (2, "running"))
        # "needed" and "running" change nothing.
        self.assertIsNone(self.fault_of(ask, (("take", 0), (("needed", 0),)), begin, (("take", 0), (("running", 0),)),
                                        (("waive", 0), (("free", 0),))))
        self.assertEqual(self.fault_of(ask, (("take", 0), (("taken", 0),)), (("waive", 0), (("free", 0),))),
                         (2, "number"))

    def test_breaking_and_mending(self):
        asks = tuple((("ask", LONG_SAMPLE), (("promised", number, 60),)) for number in range(3))
        begin = (("tick", ((1, "step", 1),), ()), ())
        self.assertIsNone(self.fault_of((("break", 0), ()), (("mend", 0, 1), (("mended", 0),)), (("break", 0), ())))
        self.assertEqual(self.fault_of((("break", 0), ()), (("break", 0), ())), (1, "tool"))
        self.assertEqual(self.fault_of((("mend", 0, 1), (("mended", 0),))), (0, "tool"))
        for words, fault in (((), None), ((("back", 1),), None), ((("back", 0), ("back", 2)), None),
                             ((("back", 2), ("back", 0)), (3, "number")), ((("back", 3),), (3, "number")),
                             ((("spoilt", 1),), (3, "number")), ((("back", 0), ("back", 1), ("back", 2)), None)):
            self.assertEqual(self.fault_of(*asks, (("break", 1), words)), fault)
        for words, fault in (((("spoilt", 1),), None), ((), (4, "number")), ((("spoilt", 0),), (4, "number")),
                             ((("spoilt", 1), ("back", 2)), None), ((("back", 1),), (4, "number")),
                             ((("spoilt", 0), ("back", 1)), (4, "number"))):
            self.assertEqual(self.fault_of(*asks, begin, (("break", 1), words)), fault)
            self.assertEqual(self.fault_of(*asks, begin, (("break", 0), words)),
                             {(): None, (("back", 1),): None}.get(words, (4, "number")))
        # A free sample can't be taken back.
        self.assertEqual(self.fault_of(asks[0], (("waive", 0), (("free", 0),)), (("break", 1), (("back", 0),))),
                         (2, "number"))
        back = asks[0], (("break", 1), (("back", 0),))
        self.assertEqual(self.fault_of(*back, (("mend", 1, 0), (("mended", 1),)), (("break", 0), (("back", 0),))),
                         (3, "number"))


if __name__ == "__main__":
    unittest.main()
