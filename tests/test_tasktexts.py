"""[37], [39]: texts of TASKS."""

import unittest

from tests.examples import DOC_LAB, EMPTY_TASK, GREAT_TASK, HUGE_TASK, NO_TUPLES, RUN_TASK, TASK, random_tasks
from washedarms.errors import BadTask, BadText
from washedarms.tasktexts import read_task, task_text, task_text_fault

TASKS = [EMPTY_TASK, RUN_TASK, TASK, GREAT_TASK, HUGE_TASK] + random_tasks(22, 60)
TEXT = """lab 3 2 2 2 2
state 1 2
state 1 -
state - 2
wash 1 3
leaves 0
leaves 0 1
leaves 0
sample
step 0 tools 0 1 zones 0 ticks 1 2
window 1
step 1 tools 1 zones 0 1 ticks 2 3
sample
sample
step 1 tools 1 zones 0 1 ticks 2 3
window none
step 0 tools 0 1 zones 0 ticks 1 2
window 0
step 0 tools 0 1 zones 0 ticks 1 2"""
# What no word of a TASK's text is.
JUNK = ("", "x", "01", "00", "+1", "-1", "1.", "9", "10", "99", "1" * 5000, "-" * 3, "Lab", "lab\t", "1\r",
        "nones", "None", "True", "tool")


class TextTest(unittest.TestCase):
    def check(self, text, fault):
        self.assertEqual(task_text_fault(text), fault, text)
        if fault is None:
            self.assertEqual(task_text(read_task(text)), text)
        else:
            with self.assertRaises(BadText) as caught:
                read_task(text)
            self.assertEqual((caught.exception.line, caught.exception.word), fault)

    def check_line(self, line, new, fault):
        """Check the TEXT with another line."""
        rows = TEXT.split("\n")
        rows[line] = new
        self.check("\n".join(rows), fault)

    def test_there_and_back(self):
        for task in TASKS:
            text = task_text(task)
            self.assertIs(type(text), str)
            self.assertEqual(read_task(text), task)
            self.check(text, None)

    def test_by_hand(self):
        self.assertEqual(task_text(TASK), TEXT)
        self.assertEqual(read_task(TEXT), TASK)
        self.assertEqual(task_text(EMPTY_TASK), "lab 1 1 1 1 0\nstate 0")
        self.assertEqual(task_text(RUN_TASK), "\n".join((
            "lab 2 2 1 1 0", "state 1 0", "state 1 -", "wash 1 1", "leaves 0", "leaves 0", "sample",
            "step 0 tools 0 zones ticks 1 2", "window 1", "step 1 tools 0 zones ticks 1 1")))

    def test_a_wrong_word_anywhere(self):
        for task in (TASK, GREAT_TASK, RUN_TASK):
            rows = [row.split(" ") for row in task_text(task).split("\n")]
            for line, words in enumerate(rows):
                for place in range(len(words)):
                    for junk in JUNK:
                        new = words[:place] + [junk] + words[place + 1:]
                        text = "\n".join(" ".join(new if index == line else row) for index, row in enumerate(rows))
                        self.check(text, (line, place))

    def test_a_word_too_many(self):
        rows = task_text(TASK).split("\n")
        for line, row in enumerate(rows):
            for junk in ("", "x", "0 ", "lab"):
                text = "\n".join(rows[:line] + [row + " " + junk] + rows[line + 1:])
                place = len(row.split(" "))
                if junk == "0 " and row == "leaves 0 1":
                    place = 3
                self.check(text, (line, place))
                self.check("\n".join(rows[:line] + [" " + row] + rows[line + 1:]), (line, 0))

    def test_a_line_that_ends_too_early(self):
        rows = task_text(TASK).split("\n")
        for line, row in enumerate(rows):
            words = row.split(" ")
            for many in range(1, len(words)):
                if words[0] == "leaves" and many == 2:
                    continue
                self.check("\n".join(rows[:line] + [" ".join(words[:many])] + rows[line + 1:]), (line, many))

    def test_a_text_that_ends_too_early(self):
        rows = task_text(TASK).split("\n")
        for many in range(1, len(rows)):
            # The samples may end behind each of their lines but a window's, the washes' lines may not be cut.
            right = many == 4 or (many >= 8 and not rows[many - 1].startswith("window"))
            self.check("\n".join(rows[:many]), None if right else (many, 0))

    def test_a_line_too_many(self):
        for task in (TASK, EMPTY_TASK):
            text = task_text(task)
            many = len(text.split("\n"))
            for junk in ("", "x", "lab 1 1 1 1 0", "state 0", "leaves 0"):
                self.check(text + "\n" + junk, (many, 0))
        text = task_text(EMPTY_TASK)
        self.check(text + "\nstep 0 tools 0 zones ticks 1 1", (2, 0))
        self.check(text + "\nsample\nwindow none", (3, 0))
        self.check(text + "\nsample\nsample\nsample\nsample", None)
        self.check(text + "\nsample\nsample\nsample\nsample\nsample", (6, 0))
        self.check(text + "\nsample\nwash 1 1\nleaves 0", (3, 0))
        step, window = "\nstep 0 tools 0 zones ticks 1 1", "\nwindow 6"
        steps = text + "\nsample" + step + (window + step) * 3
        self.check(steps, None)
        self.check(steps + window, (10, 0))
        self.check(steps + window + step, (10, 0))
        self.check(text + "\nsample" + step + step, (4, 0))
        self.check(text + "\nsample" + step + window, (5, 0))
        self.check(text + "\nsample" + step + window + window, (5, 0))
        self.check(text + "\nsample" + step + window + "\nsample", (5, 0))
        self.check("\n" + text, (0, 0))
        self.check(text + "\n", (2, 0))

    def test_washes(self):
        text, wash = task_text(EMPTY_TASK), "\nwash 1 1\nleaves 0"
        self.check(text + wash * 3, None)
        self.check(text + wash * 4, (8, 0))
        self.check(text + "\nwash 1 1", (3, 0))
        self.check(text + "\nwash 1 1\nleaves 0\nleaves 0", (4, 0))

    def test_empty_text(self):
        self.check("", (0, 0))
        self.check(" ", (0, 0))
        self.check("\n", (0, 0))
        self.check("lab", (0, 1))
        self.check("lab ", (0, 1))

    def test_counts(self):
        for place, low, high in ((1, 1, 8), (2, 1, 8), (3, 1, 3), (4, 1, 3), (5, 0, 4)):
            for number in range(0, 13):
                words = "lab 1 1 1 1 0".split()
                words[place] = str(number)
                if low <= number <= high:
                    fault = (1, 0)
                    if place == 5:
                        self.check(" ".join(words) + "\nstate 0", None)
                else:
                    fault = (0, place)
                self.check(" ".join(words), fault)

    def test_states(self):
        self.check_line(1, "state - 2", (1, 1))
        self.check_line(1, "state 1 -", (1, 2))
        self.check_line(1, "state 1 3", (1, 2))
        self.check_line(2, "state - -", None)
        self.check_line(2, "state 1", (2, 2))
        self.check_line(2, "state 1 2 0", (2, 3))
        self.check_line(2, "State 1 2", (2, 0))

    def test_spans(self):
        for low in range(0, 9):
            for high in range(0, 9):
                place = None
                if not 1 <= low <= 6:
                    place = 1
                elif not low <= high <= 6:
                    place = 2
                self.check_line(4, f"wash {low} {high}", None if place is None else (4, place))
                self.check_line(9, f"step 0 tools 0 zones ticks {low} {high}", None if place is None else (9,
                        place + 5))

    def test_results(self):
        for words, place in (("0 1 2", None), ("0", None), ("2", None), ("1 2", None), ("3", 1), ("0 0", 2), ("1 0", 2),
                             ("0 1 2 3", 4), ("0 1 2 0", 4), ("0 2 1", 3), ("0 3", 2), ("- 0", 1)):
            self.check_line(6, "leaves " + words, None if place is None else (6, place))
        self.check_line(6, "leaves", (6, 1))
        # Three states at most may be left, also where there are more.
        for words, fault in (("0 1 2", None), ("1 3 4", None), ("0 1 2 3", (3, 4)), ("0 1 2 3 4", (3, 4)), ("0 1 2 ",
                (3, 4))):
            rows = ["lab 5 1 1 1 0", "wash 1 1", "leaves " + words] + ["state 0"] * 5 + ["leaves 0"] * 4
            rows = rows[:1] + rows[3:8] + rows[1:3] + rows[8:]
            self.check("\n".join(rows), None if fault is None else (7, fault[1]))
        text = task_text((DOC_LAB[:1] + (((((0, 1, 2),) * 3, 1, 1),),) + DOC_LAB[2:], ()))
        self.assertIn("leaves 0 1 2\nleaves 0 1 2", text)

    def test_steps(self):
        for words, place in (
                ("0 tools 0 zones ticks 1 1", None), ("2 tools 0 zones ticks 1 1", 1), ("0 tools zones ticks 1 1", 3),
                ("0 tools 2 zones ticks 1 1", 3), ("0 tools 0 0 zones ticks 1 1", 4), ("0 tools 1 0 zones ticks 1 1",
                        4),
                ("0 tools 0 1 2 zones ticks 1 1", 5), ("0 tools 0 1 zones 0 1 ticks 1 1", None), ("0 tools 0 ticks", 4),
                ("0 tools 0 zones 1 0 ticks 1 1", 6), ("0 tools 0 zones 2 ticks 1 1", 5), ("0 tools 0 zones 0 1 2", 7),
                ("0 tools 0 zones", 5), ("0 tools 0 zones 0", 6), ("0 tools 0 1", 5), ("0 tools", 3), ("0 zones", 2),
                ("0 tools 0 zones 1 1 ticks 1 1", 6), ("0 tools 0 zones ticks 1", 7), ("0 tools 0 zones ticks", 6)):
            self.check_line(9, "step " + words, None if place is None else (9, place))
        text = "lab 1 1 1 1 0\nstate 0\nsample\nstep 0 tools 0 zones 0"
        self.check(text, (3, 5))

    def test_windows(self):
        for word in ("none", "0", "1", "2", "3", "4", "5", "6"):
            self.check_line(10, "window " + word, None)
        for word in ("7", "-", "-1", "00", "None", "8"):
            self.check_line(10, "window " + word, (10, 1))
        self.check_line(10, "window", (10, 1))
        self.check_line(10, "window 1 1", (10, 2))

    def test_the_first_fault_is_told(self):
        rows = TEXT.split("\n")
        rows[2], rows[4], rows[9] = "state x y z", "wash", "steps"
        self.check("\n".join(rows), (2, 1))

    def test_no_strings(self):
        for call in (read_task, task_text_fault):
            for wrong in tuple(value for value in NO_TUPLES if type(value) is not str) + ((), ("lab",), b"lab"):
                with self.assertRaises(BadText) as caught:
                    call(wrong)
                self.assertEqual((caught.exception.line, caught.exception.word), (None, None))

    def test_wrong_tasks(self):
        for wrong in NO_TUPLES + ((EMPTY_TASK[0], 0),):
            with self.assertRaises(BadTask):
                task_text(wrong)


if __name__ == "__main__":
    unittest.main()
