"""[170] to [172], [4]: LIVE HOUSES."""

import inspect
import random
import unittest

from tests.examples import (
    CLEAN_SAMPLE, DIRTY_SAMPLE, DOC_LAB, EMPTY_SLOT, GREAT_LAB, HOUSE_LAB, LEAST_LAB, LONG_SAMPLE, MANY_STANDINGS,
    NEVER_RIGHT, NO_TUPLES, SHORT_SAMPLE, STEP_LAB, Odd, changed, house_runs, refused)
from washedarms.errors import (
    BadEvent, BadLab, BadLateness, BadNumber, BadSample, BadState, BadTool, LabError, TooGreat)
from washedarms.houses import house_new
from washedarms.housing import house_step
from washedarms.livehouses import LiveHouse
from washedarms.livetexts import live_of_text, live_text

RUNS = [(lab, tuple(event for _, event, _ in rows), tuple(words for _, _, words in rows),
         tuple(house for house, _, _ in rows) + (last,)) for lab, rows, last in house_runs()]
SHORT = ("ask", SHORT_SAMPLE)
# EVENTS that a HOUSE of HOUSE_LAB refuses, and the error.
REFUSED = (("x", BadEvent), ((), BadEvent), (("ask",), BadEvent), (("ask", EMPTY_SLOT), BadSample),
           (("tick", ((0, 0), (0, 0))), BadLateness), (("waive", 99), BadNumber), (("take", True), BadNumber),
           (("break", 2), BadTool), (("mend", 0, 0), BadTool), (("tick", 3, 4), BadEvent))


def told(live):
    """All that a LIVE HOUSE tells."""
    return live.house, live.past(), live.ahead(), live_text(live)


def done(lab, events):
    """A LIVE HOUSE behind some EVENTS."""
    live = LiveHouse(lab)
    for event in events:
        live.do(event)
    return live


class DoneTest(unittest.TestCase):
    def test_new(self):
        for lab in (LEAST_LAB, GREAT_LAB, DOC_LAB, HOUSE_LAB):
            live = LiveHouse(lab)
            self.assertEqual((live.house, live.past(), live.ahead()), (house_new(lab), (), ()))
            self.assertEqual(LiveHouse(lab=lab).house, live.house)
        for wrong in NO_TUPLES:
            refused(self, BadLab, {"word": "lab", "place": ()}, LiveHouse, wrong)
        refused(self, BadLab, {"word": "arms", "place": (3,)}, LiveHouse, changed(LEAST_LAB, (3,), 4))

    def test_events_done(self):
        for lab, events, words, houses in RUNS:
            live = LiveHouse(lab)
            for index, event in enumerate(events):
                before = live.past()
                self.assertEqual(live.do(event), words[index])
                self.assertEqual(live.house, houses[index + 1])
                self.assertEqual(live.past(), tuple(zip(events[:index + 1], words)))
                self.assertEqual(live.ahead(), ())
                # What was told stays as it was.
                self.assertEqual(before, tuple(zip(events[:index], words)))

    def test_taken_back_and_done_again(self):
        rng = random.Random(990)
        for lab, events, words, houses in RUNS:
            live = done(lab, events)
            at, ahead = len(events), ()
            for _ in range(40):
                if at and (not ahead or rng.random() < 0.5):
                    many = rng.randint(1, min(at, rng.choice((1, 5, 99))))
                    taken = live.undo(many) if many > 1 or rng.random() < 0.5 else live.undo()
                    self.assertEqual(taken, events[at - many:at][::-1])
                    ahead, at = events[at - many:at] + ahead, at - many
                elif ahead:
                    many = rng.randint(1, min(len(ahead), rng.choice((1, 5, 99))))
                    again = live.redo(many=many) if many > 1 or rng.random() < 0.5 else live.redo()
                    self.assertEqual(again, words[at:at + many])
                    ahead, at = ahead[many:], at + many
                self.assertEqual(live.house, houses[at])
                self.assertEqual(live.past(), tuple(zip(events[:at], words)))
                self.assertEqual(live.ahead(), ahead)
                self.check_numbers(live, at, len(ahead))

    def check_numbers(self, live, past, ahead):
        before = told(live)
        for wrong in (0, -1, past + 1, True, None, "1", 10 ** 30):
            refused(self, BadNumber, {"value": wrong}, live.undo, wrong)
        for wrong in (0, -1, ahead + 1, False, None, (1,), 10 ** 30):
            refused(self, BadNumber, {"value": wrong}, live.redo, wrong)
        self.assertEqual(told(live), before)

    def test_what_is_done_empties_ahead(self):
        live = done(HOUSE_LAB, (SHORT, ("tick", ((1, 0),)), SHORT))
        self.assertEqual(live.undo(2), (SHORT, ("tick", ((1, 0),))))
        self.assertEqual(live.ahead(), (("tick", ((1, 0),)), SHORT))
        live.do(("waive", 0))
        self.assertEqual(live.ahead(), ())
        self.assertEqual(live.past(), ((SHORT, (("promised", 0, 1),)), (("waive", 0), (("free", 0),))))
        refused(self, BadNumber, {"value": 1}, live.redo)

    def test_part_of_ahead(self):
        live = done(HOUSE_LAB, (SHORT, ("waive", 0), ("take", 0), SHORT))
        self.assertEqual(live.undo(3), (SHORT, ("take", 0), ("waive", 0)))
        self.assertEqual(live.undo(), (SHORT,))
        refused(self, BadNumber, {"value": 1}, live.undo)
        self.assertEqual(live.ahead(), (SHORT, ("waive", 0), ("take", 0), SHORT))
        self.assertEqual(live.redo(2), ((("promised", 0, 1),), (("free", 0),)))
        self.assertEqual(live.ahead(), (("take", 0), SHORT))
        self.assertEqual(live.redo(many=2), ((("taken", 0),), (("promised", 1, 1),)))
        self.assertEqual(live.ahead(), ())


class RefusedTest(unittest.TestCase):
    def test_nothing_changes(self):
        live = done(HOUSE_LAB, (SHORT, ("tick", ((1, 0),)), ("ask", LONG_SAMPLE)))
        live.undo(1)
        before = told(live)
        for event, error in REFUSED:
            with self.assertRaises(error):
                live.do(event)
            self.assertEqual(told(live), before)
            for events in ((event,), (SHORT, event), (SHORT, ("tick", ((1, 0),)), event, SHORT)):
                with self.assertRaises(error):
                    live.tried(events)
                self.assertEqual(told(live), before)
        for wrong in NO_TUPLES + ([SHORT],):
            refused(self, BadEvent, {"word": None}, live.tried, wrong)
            refused(self, BadEvent, {"word": None}, live.do, wrong)
        out = done(HOUSE_LAB, (("break", 0),))
        refused(self, BadState, {"value": 2}, out.do, ("mend", 0, 2))
        task = MANY_STANDINGS[1]
        great = done(task[0], (("break", 0), ("mend", 0, 0)))
        great.undo()
        before = told(great)
        great.redo()
        refused(self, TooGreat, {"most": 20000}, great.do, ("ask", task[1][0]))
        great.undo()
        self.assertEqual(told(great), before)

    def test_ahead_that_is_refused(self):
        """AHEAD that was read out of a text: of several EVENTS none is done if one is refused."""
        text = live_text(done(HOUSE_LAB, (SHORT,)))
        for event, error in (("waive 7", BadNumber), ("mend 1 0", BadTool), ("tick end 0 0", BadLateness),
                             ("ask\nsample", BadSample)):
            live = live_of_text(text + "\nahead\nwaive 0\n" + event + "\ntake 0")
            before = told(live)
            for many in (2, 3):
                with self.assertRaises(error):
                    live.redo(many)
                self.assertEqual(told(live), before)
            refused(self, BadNumber, {"value": 4}, live.redo, 4)
            self.assertEqual(live.redo(1), ((("free", 0),),))
            self.assertEqual(len(live.ahead()), 2)
            with self.assertRaises(error):
                live.redo()
            self.assertEqual(len(live.ahead()), 2)
            self.assertEqual(live.undo(), (("waive", 0),))
            self.assertEqual(told(live), before)


class TriedTest(unittest.TestCase):
    def test_tried(self):
        for lab, events, words, houses in RUNS:
            for first in (0, 7, 20):
                live = done(lab, events[:first + 3])
                live.undo(3)
                before = told(live)
                for many in (0, 1, 8):
                    self.assertEqual(live.tried(events[first:first + many]),
                                     (houses[first + len(events[first:first + many])], words[first:first + many]))
                    self.assertEqual(told(live), before)
        self.assertEqual(LiveHouse(HOUSE_LAB).tried(()), (house_new(HOUSE_LAB), ()))
        self.assertEqual(LiveHouse(HOUSE_LAB).tried(events=(SHORT,))[1], ((("promised", 0, 1),),))


class TwinTest(unittest.TestCase):
    def test_neither_changes_with_the_other(self):
        for lab, events, _, _ in RUNS:
            live = done(lab, events[:12])
            live.undo(4)
            twin = live.twin()
            self.assertIs(type(twin), LiveHouse)
            self.assertIsNot(twin, live)
            before = told(live)
            self.assertEqual(told(twin), before)
            for change in (lambda one: one.redo(2), lambda one: one.undo(3), lambda one: one.do(("break", 0))):
                for one, other in ((live, twin), (twin, live)):
                    kept = told(other)
                    if change is not None:
                        try:
                            change(one)
                        except LabError:
                            pass
                    self.assertEqual(told(other), kept)
            again = done(lab, events[:12])
            again.undo(4)
            self.assertEqual(told(again), before)
        new = LiveHouse(HOUSE_LAB)
        twin = new.twin()
        self.assertEqual(told(twin), told(new))
        twin.do(SHORT)
        self.assertEqual((new.past(), new.house), ((), house_new(HOUSE_LAB)))


class InTest(unittest.TestCase):
    def test_numbers(self):
        for lab, events, _, houses in RUNS:
            live = LiveHouse(lab)
            for event, house in zip(events, houses[1:]):
                live.do(event)
                numbers = [number for number, _ in house[4]]
                for number in range(-1, house[5] + 2):
                    self.assertIs(number in live, number in numbers)
        live = done(STEP_LAB, (("ask", DIRTY_SAMPLE), ("ask", CLEAN_SAMPLE)))
        for number in (0, 1):
            self.assertIs(number in live, True)
        for wrong in NEVER_RIGHT + NO_TUPLES + (None, "0", "1", (0,), [0], Odd(), live):
            if type(wrong) is not int or wrong not in (0, 1):
                self.assertIs(wrong in live, False)
                self.assertIs(wrong not in live, True)

    def test_operators(self):
        live, other = LiveHouse(HOUSE_LAB), LiveHouse(HOUSE_LAB)
        for value in (other, 3, "x", (), None, live.house):
            self.assertIs(live == value, False)
            self.assertIs(live != value, True)
            for call in (lambda: live < value, lambda: live <= value, lambda: live > value, lambda: live >= value,
                         lambda: live + value, lambda: value + live, lambda: live - value, lambda: live * value,
                         lambda: live // value, lambda: live & value, lambda: live | value, lambda: live ^ value,
                         lambda: live << value, lambda: live[value], lambda: live ** value, lambda: len(live),
                         lambda: iter(live), lambda: -live):
                with self.assertRaises(TypeError):
                    call()
        for value in (3, None, live):
            with self.assertRaises(TypeError):
                live % value
        with self.assertRaises(TypeError):
            live in 3
        self.assertTrue(live)


class InterfaceTest(unittest.TestCase):
    def test_names(self):
        for name, words in (("past", []), ("ahead", []), ("do", ["event"]), ("undo", ["many"]), ("redo", ["many"]),
                            ("tried", ["events"]), ("twin", []), ("__contains__", ["number"]), ("__init__", ["lab"])):
            method = vars(LiveHouse)[name]
            self.assertEqual(list(inspect.signature(method).parameters)[1:], words)
        self.assertIsInstance(vars(LiveHouse)["house"], property)
        self.assertEqual(inspect.signature(LiveHouse.undo).parameters["many"].default, 1)
        self.assertEqual(inspect.signature(LiveHouse.redo).parameters["many"].default, 1)
        self.assertEqual(LiveHouse.__module__, "washedarms.livehouses")
        with self.assertRaises(AttributeError):
            LiveHouse(HOUSE_LAB).house = 3

    def test_by_name(self):
        live = LiveHouse(lab=HOUSE_LAB)
        self.assertEqual(live.do(event=SHORT), (("promised", 0, 1),))
        self.assertEqual(live.tried(events=(("waive", 0),))[1], ((("free", 0),),))
        self.assertEqual(live.undo(many=1), (SHORT,))
        self.assertEqual(live.redo(many=1), ((("promised", 0, 1),),))
        self.assertEqual(house_step(live.house, ("tick", ((1, 0),)))[1], (("done", 0),))


if __name__ == "__main__":
    unittest.main()
