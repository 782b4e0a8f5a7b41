"""[38], [39]: texts of STANDINGS."""

import random
import unittest

from tests.examples import (
    DOC_LAB, EMPTY_TASK, GREAT_TASK, HUGE_TASK, NO_TUPLES, RUN_TASK, TASK, literal_standings, random_tasks)
from washedarms.errors import BadStanding, BadTask, BadText
from washedarms.forms import start
from washedarms.numbering import standing_at, standings_number
from washedarms.standingtexts import read_standing, standing_text, standing_text_fault

JUNK = ("", "x", "01", "00", "+0", "-1", "9", "99", "1" * 5000, "Idle", "none", "samples")
STANDING = (((1, 2), (0, 0), (1, 0)), ((1, ("wash", 0, 2)), (0, ("step", 2, 1))))


class StandingTextTest(unittest.TestCase):
    def check(self, task, text, fault):
        self.assertEqual(standing_text_fault(task, text), fault, text)
        if fault is None:
            self.assertEqual(standing_text(task, read_standing(task, text)), text)
        else:
            with self.assertRaises(BadText) as caught:
                read_standing(task, text)
            self.assertEqual((caught.exception.line, caught.exception.word), fault)

    def test_by_hand(self):
        text = "sample 1 2\nsample 0 0\nsample 1 0\ntool 1 wash 0 2\ntool 0 step 2 1"
        self.assertEqual(standing_text(TASK, STANDING), text)
        self.assertEqual(read_standing(TASK, text), STANDING)
        self.assertEqual(standing_text(EMPTY_TASK, start(EMPTY_TASK)), "tool 0 idle")
        self.assertEqual(standing_text(EMPTY_TASK, ((), ((0, ("out",)),))), "tool 0 out")

    def test_there_and_back(self):
        rng = random.Random(23)
        for task in [EMPTY_TASK, RUN_TASK, TASK, GREAT_TASK, HUGE_TASK] + random_tasks(24, 15):
            many = standings_number(task)
            for _ in range(15):
                standing = standing_at(task, rng.randrange(many))
                text = standing_text(task, standing)
                self.assertIs(type(text), str)
                self.assertEqual(read_standing(task, text), standing)
                self.check(task, text, None)

    def test_first_faults_beside_all_texts(self):
        """The first fault of changed texts, told by all texts that there are."""
        rng = random.Random(25)
        for task in [EMPTY_TASK, RUN_TASK] + random_tasks(26, 5, states=2, tools=2, samples=1, steps=2):
            texts = [standing_text(task, one).split("\n") for one in literal_standings(task)]
            # What stands at the ends of words, lines and texts, as one row of tokens.
            rows = {tuple(self.tokens(text)) for text in texts}
            begun = {row[:many] for row in rows for many in range(len(row) + 1)}
            for _ in range(300):
                text = [row.split(" ") for row in rng.choice(texts)]
                row = rng.randrange(len(text))
                change = rng.randrange(6)
                if change == 0:
                    text[row][rng.randrange(len(text[row]))] = rng.choice(("0", "1", "2", "3", "step", "wash", "idle"))
                elif change == 1:
                    text[row].append(rng.choice(("0", "1", "")))
                elif change == 2:
                    text[row].pop()
                elif change == 3:
                    text.pop(row)
                elif change == 4:
                    text.insert(row, rng.choice(text))
                else:
                    text[row][-1] = rng.choice(("0", "1", "2", "3"))
                rows_of_words = [" ".join(words) for words in text]
                self.check(task, "\n".join(rows_of_words), self.first_fault(rows_of_words, rows, begun))

    def tokens(self, rows):
        found = []
        for row in rows:
            found += row.split(" ") + ["end of line"]
        return found + ["end of text"]

    def first_fault(self, rows, right, begun):
        """The place of the first token with which no text goes on."""
        found = ()
        text = "\n".join(rows)
        for line, row in enumerate(text.split("\n")):
            for place, word in enumerate(row.split(" ") + ["end of line"]):
                found += (word,)
                if found not in begun:
                    return (line, place)
        return None if found + ("end of text",) in right else (len(text.split("\n")), 0)

    def test_a_wrong_word_anywhere(self):
        rows = [row.split(" ") for row in standing_text(TASK, STANDING).split("\n")]
        for line, words in enumerate(rows):
            for place in range(len(words)):
                for junk in JUNK:
                    new = words[:place] + [junk] + words[place + 1:]
                    text = "\n".join(" ".join(new if index == line else row) for index, row in enumerate(rows))
                    self.check(TASK, text, (line, place))

    def test_ends(self):
        rows = standing_text(TASK, STANDING).split("\n")
        for line, row in enumerate(rows):
            words = row.split(" ")
            self.check(TASK, "\n".join(rows[:line]), (line, 0) if line else (0, 0))
            for many in range(1, len(words)):
                self.check(TASK, "\n".join(rows[:line] + [" ".join(words[:many])] + rows[line + 1:]), (line, many))
            for junk in ("", "0", "x"):
                self.check(TASK, "\n".join(rows[:line] + [row + " " + junk] + rows[line + 1:]), (line, len(words)))
        for junk in ("", "tool 0 idle", "x"):
            self.check(TASK, "\n".join(rows + [junk]), (5, 0))
        self.check(EMPTY_TASK, "", (0, 0))
        self.check(EMPTY_TASK, "sample 0 0\ntool 0 idle", (0, 0))

    def check_last(self, rests, line, place, task=TASK):
        rows = [f"sample {done} {waited}" for done, waited in rests] + line.split("/")
        self.check(task, "\n".join(rows), None if place is None else (len(rests) + place[0], place[1]))

    def test_what_stands_ahead_tells_what_may_stand(self):
        clean = ((0, 0),) * 3
        self.check_last(clean, "tool 0 step 0 1/tool 0 idle", None)
        # The step 0 of sample 0 uses the zone of sample 2's.
        self.check_last(clean, "tool 0 step 0 1/tool 0 step 2 1", (1, 2))
        self.check_last(clean, "tool 0 step 2 1/tool 0 idle", (0, 3))
        self.check_last(((2, 0), (0, 0), (1, 0)), "tool 0 step 0 1/tool 0 idle", (0, 3))
        self.check_last(((2, 0), (0, 0), (1, 0)), "tool 0 step 2 2/tool 0 idle", (0, 4))
        self.check_last(((2, 0), (0, 0), (3, 0)), "tool 0 step 0 1/tool 0 idle", (0, 2))
        self.check_last(((2, 0), (0, 0), (2, 1)), "tool 0 step 2 1/tool 0 idle", (0, 2))
        self.check_last(((2, 0), (0, 0), (2, 0)), "tool 0 step 2 1/tool 0 idle", None)
        self.check_last(clean, "tool 0 wash 0 2/tool 0 wash 0 3", (1, 4))
        self.check_last(clean, "tool 0 wash 1 2/tool 0 wash 0 3", (0, 3))
        self.check_last(clean, "tool 3 idle/tool 0 idle", (0, 1))
        one_arm = (DOC_LAB[:3] + (1, 2), TASK[1])
        self.check_last(clean, "tool 0 wash 0 2/tool 0 wash 0 1", (1, 2), one_arm)
        self.check_last(clean, "tool 0 out/tool 0 wash 0 1", None, one_arm)

    def test_positions(self):
        tools = "tool 0 idle/tool 0 idle"
        self.check_last(((1, 2), (0, 0), (2, 1)), tools, None)
        for rests, place in ((((3, 0),), (0, 1)), (((1, 3),), (0, 2)), (((0, 1),), (0, 2)), (((2, 1),), (0, 2)),
                             (((0, 0), (1, 0)), (1, 1)), (((0, 0), (0, 1)), (1, 2))):
            rows = [f"sample {done} {waited}" for done, waited in rests]
            self.check(TASK, "\n".join(rows), place)

    def test_wrong_arguments(self):
        wrong_task = (DOC_LAB, 0)
        for call in (standing_text, read_standing, standing_text_fault):
            with self.assertRaises(BadTask):
                call(wrong_task, 3)
        for wrong in NO_TUPLES + ((),):
            with self.assertRaises(BadStanding):
                standing_text(TASK, wrong)
            if type(wrong) is not str:
                for call in (read_standing, standing_text_fault):
                    with self.assertRaises(BadText) as caught:
                        call(TASK, wrong)
                    self.assertEqual((caught.exception.line, caught.exception.word), (None, None))


if __name__ == "__main__":
    unittest.main()
