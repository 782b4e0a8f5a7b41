"""[906], [907]: texts of LOGS, also of those that were cut."""

import random
import unittest

from tests.examples import (
    CLEAN_SAMPLE, DIRTY_SAMPLE, DOC_LAB, EMPTY_SLOT, GREAT_LAB, HOUSE_LAB, LEAST_LAB, LONG_SAMPLE, NO_TUPLES,
    SHORT_SAMPLE, STEP_LAB, ZONE_SAMPLE, house_logs, literal_is_entry, literal_replay, near_values, refused)
from washedarms.errors import BadEntry, BadLab, BadText, TooGreat
from washedarms.loglines import log_text, log_text_fault, mended_log, read_log, recovered
from washedarms.tasktexts import task_text
from tests.test_replays import ENTRIES

LAST = 10 ** 18 - 1
HEAD = task_text((HOUSE_LAB, ())) + "\nlog\n"
MANY = len(HEAD.split("\n")) - 1
# Words that can stand nowhere.
JUNK = ("x", "", "00", "-1", "+1", "1_0", "1.0", "01", "Log", "log ", "4294967296" * 3, "one", "askk", "\t", "0x1")


def literal_text(lab, entries):
    """The TEXT of a LOG, by [906]."""
    rows = task_text((lab, ())).split("\n") + ["log"]
    for event, words in entries:
        if event[0] == "ask":
            sample = task_text((lab, (event[1],))).split("\n")
            rows += ["ask"] + sample[sample.index("sample"):]
        elif event[0] == "tick":
            rows.append(" ".join(["tick"] + [f"start {tool} {word} {which}" for tool, word, which in event[1]]
                                 + [f"end {tool} {state}" for tool, state in event[2]]))
        else:
            rows.append(" ".join(str(part) for part in event))
        rows.append(" ".join(["told"] + [str(part) for word in words for part in word]))
    return "".join(row + "\n" for row in rows)


TEXTS = [(lab, entries, literal_text(lab, entries)) for lab, entries, _ in house_logs()] + [
    (HOUSE_LAB, ENTRIES, literal_text(HOUSE_LAB, ENTRIES)), (LEAST_LAB, (), literal_text(LEAST_LAB, ())),
    (GREAT_LAB, (), literal_text(GREAT_LAB, ())), (DOC_LAB, (), literal_text(DOC_LAB, ()))]
TEXT = literal_text(HOUSE_LAB, ENTRIES)


def tokens(text):
    """The lines of a text as rows of words."""
    return [row.split(" ") for row in text.split("\n")]


def joined(rows):
    """Rows of words as a text."""
    return "\n".join(" ".join(row) for row in rows)


class TextTest(unittest.TestCase):
    def test_there_and_back(self):
        for lab, entries, text in TEXTS:
            self.assertEqual(log_text(lab, entries), text)
            self.assertEqual(read_log(text), (lab, entries))
            self.assertIsNone(log_text_fault(text))
            self.assertEqual(mended_log(text), text)

    def test_by_hand(self):
        self.assertEqual(log_text(LEAST_LAB, ()), "lab 1 1 1 1 0\nstate 0\nlog\n")
        entries = (
            (("ask", LONG_SAMPLE), (("promised", 0, 3),)), (("tick", ((0, "wash", 0), (1, "step", 0)), ((0, 0),)), ()),
            (("tick", (), ((1, 1),)), (("done", 0), ("done", 12))), (("break", 1), (("spoilt", 3), ("back", 1))),
            (("mend", 1, 0), (("mended", 1),)), (("waive", 3), (("free", 3),)), (("take", 4), (("needed", 4),)))
        self.assertEqual(log_text(HOUSE_LAB, entries), HEAD + "\n".join((
            "ask", "sample", "step 0 tools 0 1 zones ticks 1 2", "window 2", "step 1 tools 0 zones 0 ticks 1 1",
            "told promised 0 3", "tick start 0 wash 0 start 1 step 0 end 0 0", "told", "tick end 1 1",
            "told done 0 done 12", "break 1", "told spoilt 3 back 1", "mend 1 0", "told mended 1", "waive 3",
            "told free 3", "take 4", "told needed 4", "")))
        self.assertEqual(read_log(log_text(HOUSE_LAB, entries)), (HOUSE_LAB, entries))

    def test_many_entries(self):
        tick = (("tick", (), ()), ())
        text = log_text(HOUSE_LAB, (tick,) * 400)
        self.assertEqual(read_log(text), (HOUSE_LAB, (tick,) * 400))
        self.assertEqual(log_text_fault(text + "tick\ntold\n"), (MANY + 800, 0))
        self.assertEqual(mended_log(text + "tick\ntold\n"), text)
        self.assertEqual(log_text_fault(text[:-1]), (MANY + 800, 0))

    def test_errors_in_their_order(self):
        tick = (("tick", (), ()), ())
        for wrong in NO_TUPLES:
            refused(self, BadLab, {"word": "lab", "place": ()}, log_text, wrong, "x")
            refused(self, BadEntry, {"index": None, "why": "form"}, log_text, HOUSE_LAB, wrong)
            refused(self, BadEntry, {"index": 1, "why": "form"}, log_text, HOUSE_LAB, (tick, wrong))
        refused(self, TooGreat, {"most": 400}, log_text, HOUSE_LAB, (tick,) * 401)
        for call in (read_log, log_text_fault, mended_log, recovered):
            for wrong in NO_TUPLES + (("lab",),):
                if type(wrong) is not str:
                    refused(self, BadText, {"line": None, "word": None}, call, wrong)


class FaultTest(unittest.TestCase):
    def check(self, text, place):
        self.assertEqual(log_text_fault(text), place)
        if place is not None:
            refused(self, BadText, {"line": place[0], "word": place[1]}, read_log, text)
        else:
            self.assertEqual(log_text(*read_log(text)), text)

    def test_a_wrong_word_anywhere(self):
        rows = tokens(TEXT)
        for line, words in enumerate(rows):
            for place in range(len(words)):
                for junk in JUNK:
                    if junk == "" and place == 0 and line >= MANY:
                        continue
                    if "\n" in junk or line == len(rows) - 1 and junk == "":
                        continue
                    new = words[:place] + junk.split(" ")[:1] + words[place + 1:]
                    if junk == "log ":
                        new = words[:place] + ["logs"] + words[place + 1:]
                    self.check(joined(rows[:line] + [new] + rows[line + 1:]), (line, place))

    def test_a_word_too_many_or_too_few(self):
        rows = tokens(TEXT)
        for line, words in enumerate(rows):
            for junk in ("x", "", "0 "):
                if words[0] == "leaves":
                    continue
                self.check(joined(rows[:line] + [words + [junk]] + rows[line + 1:]), (line, len(words)))
            for many in range(1, len(words)):
                if words[0] in ("told", "tick", "leaves"):
                    continue
                self.check(joined(rows[:line] + [words[:many]] + rows[line + 1:]), (line, many))

    def test_lines(self):
        rows = tokens(TEXT)
        for line in range(1, len(rows)):
            # A text that ends too early: behind each line that is not the last one of an ENTRY, or without its end.
            right = line > MANY - 1 and rows[line - 1][0] in ("told", "log")
            self.check(joined(rows[:line]), (line, 0))
            self.check(joined(rows[:line]) + "\n", None if right else (line, 0))
            # An empty line: what stands behind it is too many, or it is no line that may stand there.
            self.check(joined(rows[:line] + [[""]] + rows[line:]), (line + 1, 0) if right else (line, 0))
            self.check(joined(rows[:line] + [["", "ask"]] + rows[line:]), (line, 1) if right else (line, 0))

    def test_changed_words(self):
        """Whatever is read is the text of what it is read as; what is not read has its fault behind what is right."""
        rng = random.Random(940)
        found = {True: 0, False: 0}
        for lab, entries, text in TEXTS * 6:
            rows = tokens(text)
            words = sorted({word for row in rows for word in row})
            for _ in range(12):
                new = [list(row) for row in rows]
                line = rng.randrange(len(new))
                place = rng.randrange(len(new[line]))
                roll = rng.random()
                if roll < 0.4:
                    new[line][place] = rng.choice(words + ["0", "1", "2", "3"])
                elif roll < 0.5:
                    del new[line][place]
                elif roll < 0.6:
                    new[line].insert(place, rng.choice(words))
                elif roll < 0.75:
                    del new[line]
                elif roll < 0.9:
                    new.insert(line, rng.choice(rows))
                else:
                    other = rng.randrange(len(new))
                    new[line], new[other] = new[other], new[line]
                    line = min(line, other)
                self.check_read(joined(new), rows, new, line, found)
        self.assertGreater(min(found.values()), 50)

    def check_read(self, text, rows, new, line, found):
        fault = log_text_fault(text)
        found[fault is None] += 1
        if fault is None:
            told = read_log(text)
            self.assertEqual(literal_text(*told), text)
            self.assertTrue(all(literal_is_entry(told[0], entry) for entry in told[1]))
            return
        # Up to the line that was changed all is right; and what stands ahead of the fault is a right beginning.
        self.assertGreaterEqual(fault, (line, 0))
        where, place = fault
        ahead = joined(new[:where] + ([new[where][:place]] if place else []))
        if place or where < len(new):
            told = log_text_fault(ahead)
            self.assertEqual(told if told is None else told[0] >= where, None if told is None else True)
        self.assertGreaterEqual(log_text_fault(joined(new[:where])) or (where, 0), (where, 0))

    def check_entry(self, lines, place, lab=HOUSE_LAB):
        """The fault of a text with these lines behind "log", its line counted from there."""
        head = task_text((lab, ())) + "\nlog\n"
        many = len(head.split("\n")) - 1
        self.check(head + lines.replace("/", "\n") + "\n", place and (many + place[0], place[1]))

    def test_ticks(self):
        for line, place in (
                ("tick", None), ("tick start 0 step 3", None), ("tick start 0 step 4", (0, 4)),
                ("tick start 2 step 0", (0, 2)), ("tick start 0 wash 0", None), ("tick start 0 wash 1", (0, 4)),
                ("tick start 0 Step 0", (0, 3)), ("tick start 1 step 0 start 0 step 1", (0, 5)),
                ("tick start 0 step 0 start 0 step 1", (0, 6)), ("tick start 0 step 0 start 1 wash 0", None),
                ("tick start 0 step 0 start 1 wash 0 start 1 wash 0", (0, 9)), ("tick end 0 1 end 1 0", None),
                ("tick end 1 1 end 0 0", (0, 4)), ("tick end 0 1 end 0 1", (0, 5)), ("tick end 0 2", (0, 3)),
                ("tick end 2 0", (0, 2)), ("tick end 0 1 start 1 step 0", (0, 4)), ("tick end 0", (0, 3)),
                ("tick start 0 step", (0, 4)), ("tick start 1 step 0 end 0 0", None), ("tick 0", (0, 1)),
                ("tick start 0 step 0 end 0 0 end 1 1 end 1 1", (0, 11)), ("tick wait", (0, 1))):
            self.check_entry(line + "/told", place)
        # As many STARTS as there are tools, whatever arms there are.
        lab = HOUSE_LAB[:3] + (1,) + HOUSE_LAB[4:]
        self.check_entry("tick start 0 step 0 start 1 wash 0 end 0 0 end 1 1/told", None, lab)
        self.check_entry("tick start 0 step 0 start 1 wash 0 start 1 wash 0/told", (0, 9), lab)
        lab = STEP_LAB[:3] + (3,) + STEP_LAB[4:]
        self.check_entry("tick start 0 step 0 start 1 step 0/told", (0, 5), lab)
        self.check_entry("tick end 0 0 end 0 0/told", (0, 4), lab)
        self.check_entry("tick start 0 wash 0/told", (0, 3), STEP_LAB)
        self.check_entry("tick start 0 step 0/told", None, STEP_LAB)
        self.check_entry("tick start 0 step 0 start 1 step 1/told", (0, 5), STEP_LAB)
        for told, place in (("told done 0", None), ("told done 1 done 0", (1, 4)), ("told done 1 done 1", (1, 4)),
                            ("told done 1 done 2 done 30", None), ("told done", (1, 2)), ("told free 0", (1, 1)),
                            (f"told done {LAST}", None), (f"told done {LAST} done {LAST}", (1, 3)),
                            (f"told done {LAST + 1}", (1, 2)), ("told done 00", (1, 2)), ("told 0", (1, 1)),
                            (f"told done {LAST - 1} done {LAST}", None), ("Told", (1, 0)), ("tick", (1, 0))):
            self.check_entry("tick/" + told, place)

    def test_numbers(self):
        for number in ("0", "9", "10", str(LAST), "123456789012345678"):
            self.check_entry(f"waive {number}/told free {number}", None)
            self.check_entry(f"take {number}/told running {number}", None)
            self.check_entry(f"waive {number}/told free {number}1", (1, 2))
            self.check_entry(f"take {number}/told taken 5", (1, 2))
        for number in (str(LAST + 1), "1" * 19, "00", "01", "-1", "+1", "1_1", "1.0", "", "1" * 5000, "0" * 18, "a",
                       "1a"):
            self.check_entry(f"waive {number}/told free {number}", (0, 1))
            self.check_entry(f"take {number}/told taken {number}", (0, 1))
            self.check_entry(f"break 0/told spoilt {number}", (1, 2))
            self.check_entry(f"break 0/told back 3 back {number}", (1, 4))
            self.check_entry(f"tick/told done {number}", (1, 2))
        self.check_entry("take 1/told free 1", (1, 1))
        self.check_entry("waive 1/told taken 1", (1, 1))
        self.check_entry("take 1/told", (1, 1))
        self.check_entry("take/told taken 1", (0, 1))
        self.check_entry("take 1 2/told taken 1", (0, 2))
        self.check_entry("take 1/told taken 1 taken 1", (1, 3))

    def test_breaks(self):
        for line, place in (("break 2/told", (0, 1)), ("break 1/told", None), ("break/told", (0, 1)),
                            ("break 0/told back 1 back 0", None), ("break 0/told spoilt 1 back 0 back 2", None),
                            ("break 0/told back 1 spoilt 0", (1, 3)), ("break 0/told spoilt 1 spoilt 0", (1, 3)),
                            ("break 0/told spoilt 1 back 1", (1, 4)), ("break 0/told back 7 back 5 back 7", (1, 6)),
                            ("break 0/told spoilt", (1, 2)), ("break 0/told done 0", (1, 1)),
                            ("mend 0 1/told mended 0", None), ("mend 0 1/told mended 1", (1, 2)),
                            ("mend 0 2/told mended 0", (0, 2)), ("mend 2 0/told mended 2", (0, 1)),
                            ("mend 0/told mended 0", (0, 2)), ("mend 0 1/told", (1, 1)),
                            ("mend 0 1/told mended 0 0", (1, 3)), ("mend 0 1 1/told mended 0", (0, 3))):
            self.check_entry(line, place)

    def test_asks(self):
        step, other = "step 1 tools 1 zones ticks 1 1", "step 0 tools 0 1 zones 0 ticks 2 3"
        for lines, place in (
                (f"ask/sample/{step}/told full", None), (f"ask/sample/{step}/told refused", None),
                (f"ask/sample/{step}/told promised {LAST} 60", None), (f"ask/sample/{step}/told promised 0 0", (3, 3)),
                (f"ask/sample/{step}/told promised 0 61", (3, 3)), (f"ask/sample/{step}/told promised 0", (3, 3)),
                (f"ask/sample/{step}/told promised 0 1 1", (3, 4)), (f"ask/sample/{step}/told", (3, 1)),
                (f"ask/sample/{step}/told full full", (3, 2)), (f"ask/sample/{step}/told done 0", (3, 1)),
                ("ask/sample/told full", (2, 0)), ("ask/told full", (1, 0)), (f"ask 0/sample/{step}/told full", (0, 1)),
                (f"ask/sample/{step}/window 6/{other}/told full", None),
                (f"ask/sample/{step}/{other}/told full", (3, 0)),
                (f"ask/sample/{step}/window 7/{other}/told full", (3, 1)),
                (f"ask/sample/{step}" + f"/window none/{other}" * 3 + "/told full", None),
                (f"ask/sample/{step}" + f"/window none/{other}" * 4 + "/told full", (9, 0)),
                (f"ask/sample/{step}/window 1/told full", (4, 0)), (f"ask/{step}/told full", (1, 0)),
                (f"ask/sample/{step}/sample/{step}/told full", (3, 0)), (f"ask/sample/{step}/tick/told", (3, 0)),
                (f"ask/sample/{step.replace('1', '2', 1)}/told full", (2, 1))):
            self.check_entry(lines, place)

    def test_heads(self):
        text = task_text((HOUSE_LAB, ()))
        for rest, place in (("", (MANY - 1, 0)), ("\n", (MANY - 1, 0)), ("\nlog", (MANY, 0)), ("\nlog\n", None),
                            ("\nlog\n\n", (MANY + 1, 0)), ("\nlog\n ", (MANY, 1)), ("\nlog \n", (MANY - 1, 1)),
                            ("\nsample\nlog\n", (MANY - 1, 0)), ("\ntick\ntold\n", (MANY - 1, 0)),
                            ("\nlog\nlog\n", (MANY, 0)), ("\nlog\ntold\n", (MANY, 0)), ("\nlog\nahead\n", (MANY, 0))):
            self.check(text + rest, place)
        self.check("", (0, 0))
        self.check("\n", (0, 0))
        self.check("log\n", (0, 0))
        self.check("lab 1 1 1 1 0\nstate 1\nlog\n", (1, 1))


class MendedTest(unittest.TestCase):
    def test_cut_at_each_character(self):
        for lab, entries, text in TEXTS[-4:] + TEXTS[2:3]:
            ends = [len(literal_text(lab, entries[:many])) for many in range(len(entries) + 1)]
            houses, fault = literal_replay(lab, entries)
            for cut in range(0, len(text) + 1):
                right = [many for many, end in enumerate(ends) if end <= cut]
                if not right:
                    fault_of = log_text_fault(text[:cut])
                    refused(self, BadText, {"line": fault_of[0], "word": fault_of[1]}, mended_log, text[:cut])
                    refused(self, BadText, {"line": fault_of[0], "word": fault_of[1]}, recovered, text[:cut])
                    continue
                mended = mended_log(text[:cut])
                self.assertEqual(mended, text[:ends[right[-1]]])
                if cut in ends or cut % 17 == 0:
                    self.assertEqual(mended_log(mended), mended)
                    if fault is None:
                        self.assertEqual(recovered(text[:cut]), (lab, entries[:right[-1]], houses[right[-1]]))

    def test_recovered(self):
        for lab, entries, houses in house_logs():
            text = literal_text(lab, entries)
            self.assertEqual(recovered(text), (lab, entries, houses[-1]))
            self.assertEqual(recovered(text + "tick"), (lab, entries, houses[-1]))
        # What is whole but cannot be is refused then.
        text = literal_text(HOUSE_LAB, ENTRIES)
        self.assertEqual(mended_log(text + "x"), text)
        refused(self, BadEntry, {"index": 0, "why": "slots"}, recovered, text + "x")

    def test_what_is_wrong_behind(self):
        rng = random.Random(941)
        for lab, entries, text in TEXTS[:8]:
            rows = tokens(text)
            for _ in range(20):
                line = rng.randrange(len(rows) - 1)
                wrong = joined(rows[:line] + [["x"] + rows[line]] + rows[line + 1:])
                whole = [many for many in range(len(entries) + 1)
                         if len(literal_text(lab, entries[:many]).split("\n")) - 1 <= line]
                if whole:
                    self.assertEqual(mended_log(wrong), literal_text(lab, entries[:whole[-1]]))
                else:
                    refused(self, BadText, {"line": line, "word": 0}, mended_log, wrong)

    def test_longer_numbers(self):
        # A line that is cut in a number is no whole one, though it could stand.
        text = HEAD + "waive 12\ntold free 12\n"
        self.assertEqual(mended_log(text[:-1]), HEAD)
        self.assertEqual(mended_log(text[:-2]), HEAD)
        self.assertEqual(mended_log(text), text)
        self.assertEqual(mended_log(text + "\n"), text)
        self.assertEqual(mended_log(text + "\nwaive 12\ntold free 12\n"), text)


class OtherEntriesTest(unittest.TestCase):
    def test_near_values(self):
        rng = random.Random(942)
        found = 0
        for entry in ENTRIES * 6:
            for value in near_values(entry, rng, 6):
                if literal_is_entry(HOUSE_LAB, value):
                    text = literal_text(HOUSE_LAB, (value,))
                    self.assertEqual(log_text(HOUSE_LAB, (value,)), text)
                    self.assertEqual(read_log(text), (HOUSE_LAB, (value,)))
                    found += 1
        self.assertGreater(found, 50)
        for sample in (LONG_SAMPLE, SHORT_SAMPLE, ZONE_SAMPLE):
            rows = ((("ask", sample), (("full",),)),)
            self.assertEqual(read_log(log_text(HOUSE_LAB, rows)), (HOUSE_LAB, rows))
        for sample in (DIRTY_SAMPLE, CLEAN_SAMPLE):
            rows = ((("ask", sample), (("full",),)),)
            self.assertEqual(read_log(log_text(STEP_LAB, rows)), (STEP_LAB, rows))
        refused(self, BadEntry, {"index": 0, "why": "form"}, log_text, HOUSE_LAB,
                ((("ask", EMPTY_SLOT), (("full",),)),))


if __name__ == "__main__":
    unittest.main()
