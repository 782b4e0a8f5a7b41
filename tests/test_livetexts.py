"""[173]: texts of LIVE HOUSES."""

import random
import unittest

from tests.examples import (
    CLEAN_SAMPLE, DIRTY_SAMPLE, GREAT_LAB, HOUSE_LAB, LEAST_LAB, LONG_SAMPLE, MANY_STANDINGS, NO_TUPLES, SHORT_SAMPLE,
    STEP_LAB, house_runs, refused)
from tests.test_livehouses import RUNS, done
from tests.test_loglines import JUNK, joined, tokens
from washedarms.errors import BadText
from washedarms.livehouses import LiveHouse
from washedarms.livetexts import live_of_text, live_text
from washedarms.tasktexts import task_text

LAST = 10 ** 18 - 1
HEAD = task_text((HOUSE_LAB, ()))
MANY = len(HEAD.split("\n"))
EVENTS = (("ask", LONG_SAMPLE), ("tick", ((1, 1),)), ("ask", SHORT_SAMPLE), ("waive", 0), ("break", 0), ("mend", 0, 1),
          ("tick", ((1, 0),)), ("take", 0))


def literal_text(lab, past, ahead):
    """The TEXT of a LIVE HOUSE, by [173]."""
    rows = task_text((lab, ())).split("\n")
    for place, events in enumerate((past, ahead)):
        rows += ["ahead"] if place and events else []
        for event in events:
            if event[0] == "ask":
                sample = task_text((lab, (event[1],))).split("\n")
                rows += ["ask"] + sample[sample.index("sample"):]
            elif event[0] == "tick":
                rows.append(" ".join(["tick"] + [f"end {tool} {state}" for tool, state in event[1]]))
            else:
                rows.append(" ".join(str(part) for part in event))
    return "\n".join(rows)


def lives():
    """Some LIVE HOUSES with their PAST and AHEAD."""
    rng = random.Random(995)
    found = []
    for lab, events, _, _ in RUNS:
        for many in (0, 1, 12, len(events)):
            live = done(lab, events[:many])
            back = rng.randint(0, many)
            if back:
                live.undo(back)
            found.append((live, lab, events[:many - back], events[many - back:many]))
    return found


LIVES = lives()


class TextTest(unittest.TestCase):
    def test_there_and_back(self):
        for live, lab, past, ahead in LIVES:
            text = live_text(live)
            self.assertEqual(text, literal_text(lab, past, ahead))
            other = live_of_text(text)
            self.assertIs(type(other), LiveHouse)
            self.assertEqual((other.house, other.past(), other.ahead()), (live.house, live.past(), live.ahead()))
            self.assertEqual(live_text(other), text)
            # It goes on as the other one does.
            if ahead:
                self.assertEqual(other.redo(len(ahead)), live.twin().redo(len(ahead)))

    def test_by_hand(self):
        self.assertEqual(live_text(LiveHouse(LEAST_LAB)), "lab 1 1 1 1 0\nstate 0")
        live = done(HOUSE_LAB, EVENTS)
        live.undo(3)
        text = HEAD + "\n" + "\n".join((
            "ask", "sample", "step 0 tools 0 1 zones ticks 1 2", "window 2", "step 1 tools 0 zones 0 ticks 1 1",
            "tick end 1 1", "ask", "sample", "step 1 tools 1 zones ticks 1 1", "waive 0", "break 0", "ahead",
            "mend 0 1", "tick end 1 0", "take 0"))
        self.assertEqual(live_text(live), text)
        self.assertEqual(live_of_text(text=text).house, live.house)
        self.assertEqual(live_text(live=live), text)
        live.undo(5)
        self.assertEqual(live_text(live).split("\n")[MANY], "ahead")
        self.assertEqual(live_of_text(live_text(live)).ahead(), EVENTS)
        self.assertEqual(live_of_text(live_text(LiveHouse(GREAT_LAB))).house, LiveHouse(GREAT_LAB).house)


class FaultTest(unittest.TestCase):
    def check(self, text, place):
        if place is None:
            self.assertEqual(live_text(live_of_text(text)), text)
        else:
            refused(self, BadText, {"line": place[0], "word": place[1]}, live_of_text, text)

    def check_lines(self, lines, place, head=HEAD):
        """The fault of a text with these lines behind those of the LAB, its line counted from there."""
        many = len(head.split("\n"))
        self.check(head + "\n" + lines.replace("/", "\n"), place and (many + place[0], place[1]))

    def test_a_wrong_word_anywhere(self):
        for ahead in (0, 3, len(EVENTS)):
            rows = tokens(literal_text(HOUSE_LAB, EVENTS[:len(EVENTS) - ahead], EVENTS[len(EVENTS) - ahead:]))
            for line, words in enumerate(rows):
                for place in range(len(words)):
                    for junk in JUNK + ("told", "log", "done"):
                        new = words[:place] + [junk.strip(" ")] + words[place + 1:]
                        if junk == "log ":
                            continue
                        self.check(joined(rows[:line] + [new] + rows[line + 1:]), (line, place))
                for junk in ("x", "", "0 "):
                    if words[0] != "leaves":
                        self.check(joined(rows[:line] + [words + [junk]] + rows[line + 1:]), (line, len(words)))
                for many in range(1, len(words)):
                    if words[0] not in ("tick", "leaves"):
                        self.check(joined(rows[:line] + [words[:many]] + rows[line + 1:]), (line, many))

    def test_events_as_words(self):
        """Behind "ahead" EVENTS are looked at as words alone."""
        for lines, place in (
                ("ahead", (1, 0)), ("ahead/waive 0", None), (f"ahead/take {LAST}", None),
                (f"ahead/take {LAST + 1}", (1, 1)), ("ahead/waive 00", (1, 1)), ("ahead/waive -1", (1, 1)),
                ("ahead/waive", (1, 1)), ("ahead/waive 1 1", (1, 2)), ("ahead/waive " + "9" * 18, None),
                ("ahead/waive " + "1" * 19, (1, 1)), ("ahead/waive " + "1" * 5000, (1, 1)), ("ahead/break 1", None),
                ("ahead/break 2", (1, 1)), ("ahead/mend 1 1", None), ("ahead/mend 2 1", (1, 1)),
                ("ahead/mend 1 2", (1, 2)), ("ahead/mend 1", (1, 2)), ("ahead/tick", None),
                ("ahead/tick end 0 1", None),
                ("ahead/tick end 0 1 end 1 0", None), ("ahead/tick end 1 0 end 0 1", (1, 4)),
                ("ahead/tick end 0 0 end 0 1", (1, 5)), ("ahead/tick end 2 0", (1, 2)), ("ahead/tick end 0 2", (1, 3)),
                ("ahead/tick end 0", (1, 3)), ("ahead/tick start 0 step 0", (1, 1)), ("ahead/tick 0 0", (1, 1)),
                ("ahead/ask", (2, 0)), ("ahead/ask/sample", None), ("ahead/ask/sample/sample", (3, 0)),
                ("ahead/ask/sample/take 0", None),
                ("ahead/ask/sample/step 0 tools 0 zones ticks 1 1/ask/sample", None),
                ("ahead/ask/sample/step 2 tools 0 zones ticks 1 1", (3, 1)), ("ahead/ask 0", (1, 1)),
                ("ahead/ask/step 0 tools 0 zones ticks 1 1", (2, 0)), ("ahead/ahead/take 0", (1, 0)),
                ("ahead/take 0/ahead/take 0", (2, 0)), ("ahead/", (1, 0)), ("ahead 1/take 0", (0, 1)),
                ("ahead/take 0/", (2, 0)), ("ahead/told", (1, 0)), ("log", (0, 0)), ("", (0, 0)), (" ", (0, 0)),
                ("told", (0, 0)), ("sample", (0, 0)), ("ahead/done 0", (1, 0))):
            self.check_lines(lines, place)
        self.check_lines("ahead/" + "/".join(["tick"] * 500), None)

    def test_events_that_are_refused(self):
        short = "ask/sample/step 1 tools 1 zones ticks 1 1"
        for lines, place in (
                ("waive 0", (0, 0)), ("take 5", (0, 0)), ("mend 0 0", (0, 0)), ("break 0/break 0", (1, 0)),
                ("tick end 0 0", (0, 0)), ("tick", None), ("ask/sample", (0, 0)), (short, None),
                (short + "/waive 0/take 1", (4, 0)), (short + "/tick", (3, 0)), (short + "/tick end 1 0", None),
                (short + "/" + short + "/ask/sample/tick", (6, 0)), (short + "/waive 1/waive 2/ask/sample", (3, 0)),
                # The words are looked at first, to the end of the text.
                ("waive 0/x", (1, 0)), ("waive 0/ahead", (2, 0)), ("waive 0/ahead/take x", (2, 1)),
                ("tick end 0 0/tick end 0 2", (1, 3)), ("tick/waive 1/ahead/take 0", (1, 0)),
                ("ask/sample/ahead/ask/sample", (0, 0))):
            self.check_lines(lines, place)
        # Any of the errors of house_step: a search that is too great.
        task = MANY_STANDINGS[1]
        text = task_text((task[0], task[1]))
        head = task_text((task[0], ()))
        self.check(head + "\nask\n" + text[len(head) + 1:], (len(head.split("\n")), 0))
        self.check(head + "\nahead\nask\n" + text[len(head) + 1:], None)

    def test_heads(self):
        for text, place in (("", (0, 0)), ("lab", (0, 1)), (HEAD, None), (HEAD + "\n", (MANY, 0)),
                            ("\n" + HEAD, (0, 0)), (HEAD[:-2], (MANY - 1, 1)), (HEAD + " ", (MANY - 1, 2))):
            self.check(text, place)
        rows = HEAD.split("\n")
        for many in range(1, MANY):
            self.check("\n".join(rows[:many]), None if many == 3 else (many, 0))

    def test_changed_lines(self):
        """Each text that can be read is the text of what it is read as."""
        rng = random.Random(996)
        found = {True: 0, False: 0}
        for _, lab, past, ahead in LIVES * 3:
            rows = literal_text(lab, past, ahead).split("\n")
            for _ in range(8):
                new = list(rows)
                line, other = rng.randrange(len(new)), rng.randrange(len(new))
                roll = rng.random()
                if roll < 0.3:
                    del new[line]
                elif roll < 0.6:
                    new.insert(line, rng.choice(rows))
                elif roll < 0.8:
                    new[line], new[other] = new[other], new[line]
                    line = min(line, other)
                else:
                    new.insert(line, "ahead")
                try:
                    live = live_of_text("\n".join(new))
                except BadText as bad:
                    found[False] += 1
                    # A sample is refused with the first line of its EVENT, so that may lie ahead.
                    where = bad.line + (5 if bad.word == 0 else 0)
                    self.assertGreaterEqual(where + 4, line)
                else:
                    found[True] += 1
                    self.assertEqual(live_text(live), "\n".join(new))
        self.assertGreater(min(found.values()), 100)

    def test_no_strings(self):
        for wrong in NO_TUPLES + (("lab",),):
            if type(wrong) is not str:
                refused(self, BadText, {"line": None, "word": None}, live_of_text, wrong)

    def test_needed_samples(self):
        events = (("ask", DIRTY_SAMPLE), ("ask", CLEAN_SAMPLE), ("ask", DIRTY_SAMPLE), ("take", 1))
        text = literal_text(STEP_LAB, events, ())
        self.assertEqual(live_of_text(text).past()[-1], (("take", 1), (("needed", 1),)))
        self.assertGreater(len(house_runs()), 10)


if __name__ == "__main__":
    unittest.main()
