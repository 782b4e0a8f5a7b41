"""[174], [175]: PROMISE BOOKS."""

import random
import unittest

from tests.examples import CLEAN_SAMPLE, DIRTY_SAMPLE, HOUSE_LAB, LONG_SAMPLE, SHORT_SAMPLE, STEP_LAB
from tests.test_livehouses import RUNS, done, told
from washedarms.livehouses import LiveHouse
from washedarms.promisebooks import promises

SHORT = ("ask", SHORT_SAMPLE)


def literal_book(live):
    """The PROMISE BOOK, by [174]."""
    rows, ticks = {}, 0
    for event, words in live.past():
        ticks += event[0] == "tick"
        for word in words:
            if word[0] == "promised":
                rows[word[1]] = [word[1], word[2], ticks, None]
            elif word[0] in ("done", "free", "back", "taken", "spoilt") and word[1] in rows:
                rows[word[1]][3] = rows[word[1]][3] or (word[0], ticks)
    slots = {number: slot for number, slot in live.house[4]}
    return tuple((number, due, tick, end or ("open", live.house[3][slots[number]]))
                 for number, due, tick, end in (rows[one] for one in sorted(rows)))


class BookTest(unittest.TestCase):
    def test_by_the_words(self):
        rng = random.Random(999)
        ends = {}
        for lab, events, _, _ in RUNS:
            live = LiveHouse(lab)
            for event in events:
                live.do(event)
                if rng.random() < 0.08:
                    live.undo(rng.randint(1, len(live.past())))
                    before = told(live)
                    self.assertEqual(promises(live), literal_book(live))
                    self.assertEqual(told(live), before)
                    live.redo(len(live.ahead()))
                book = promises(live)
                self.assertEqual(book, literal_book(live))
            for _, _, _, end in book:
                ends[end[0]] = ends.get(end[0], 0) + 1
            self.check_facts(live, book)
        self.assertEqual(set(ends), {"done", "free", "back", "taken", "spoilt", "open"})

    def check_facts(self, live, book):
        """[175]."""
        ticks = sum(event[0] == "tick" for event, _ in live.past())
        broken = any(event[0] == "break" for event, _ in live.past())
        for _, due, tick, (word, number) in book:
            if word == "done":
                self.assertLessEqual(number - tick, due)
            if word == "open":
                self.assertEqual(number, due - (ticks - tick))
                self.assertGreaterEqual(number, 1)
            if word in ("back", "spoilt"):
                self.assertTrue(broken)
        self.assertEqual([row[0] for row in book], list(range(live.house[5])))

    def test_by_hand(self):
        self.assertEqual(promises(LiveHouse(HOUSE_LAB)), ())
        live = done(HOUSE_LAB, (("tick", ()), ("ask", LONG_SAMPLE), SHORT, ("tick", ((1, 1),)), ("tick", ((0, 0),))))
        self.assertEqual(live.past()[1][1] + live.past()[2][1], (("promised", 0, 3), ("promised", 1, 5)))
        self.assertEqual(promises(live), ((0, 3, 1, ("done", 3)), (1, 5, 1, ("open", 3))))
        live.do(("waive", 1))
        self.assertEqual(promises(live)[1], (1, 5, 1, ("free", 3)))
        # The first word counts: it is taken, or done, later.
        live.do(("take", 1))
        self.assertEqual(promises(live)[1], (1, 5, 1, ("free", 3)))
        live.undo(2)
        live.do(("take", 1))
        self.assertEqual(promises(live=live)[1], (1, 5, 1, ("taken", 3)))
        live.undo()
        live.do(("break", 1))
        self.assertEqual(promises(live)[1], (1, 5, 1, ("back", 3)))
        runs = done(HOUSE_LAB, (("ask", LONG_SAMPLE), ("tick", ()), ("break", 1)))
        self.assertEqual(promises(runs), ((0, 3, 0, ("spoilt", 1)),))
        # "needed" and "running" end nothing.
        needed = done(STEP_LAB, (("ask", DIRTY_SAMPLE), ("ask", CLEAN_SAMPLE), ("ask", DIRTY_SAMPLE), ("take", 1)))
        self.assertEqual(promises(needed), ((0, 1, 0, ("open", 1)), (1, 3, 0, ("open", 3)), (2, 4, 0, ("open", 4))))
        runs = done(HOUSE_LAB, (("ask", LONG_SAMPLE), ("tick", ()), ("take", 0)))
        self.assertEqual(promises(runs), ((0, 3, 0, ("open", 2)),))


if __name__ == "__main__":
    unittest.main()
