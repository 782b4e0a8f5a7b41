"""[205]: like states, MERGED LABS and PARTING PAPERS."""

import unittest
from itertools import product

from tests.examples import (
    DOC_LAB, GREAT_LAB, LEAST_LAB, NEVER_RIGHT, NO_TUPLES, changed, literal_soonest, places, random_labs,
    random_tasks)
from washedarms.courses import washing
from washedarms.errors import BadLab, BadState
from washedarms.forms import start
from washedarms.labs import is_lab
from washedarms.likeness import is_like, merged, paper_fault, parting_paper, state_classes

LABS = [LEAST_LAB, DOC_LAB, GREAT_LAB] + random_labs(33, 40) + random_labs(34, 60, states=4, stuffs=1, washes=1)
# The states 1 and 3 are like, 2 is parted from them by what a wash leaves.
WASH_LAB = (((1, 0), (1, None), (1, None), (3, None)), ((((0,), (1, 3), (0, 1), (1,)), 1, 1),), 1, 1, 0)


def partitions(states):
    """All PARTITIONS of so many states."""
    rows = [(0,)]
    for _ in range(states - 1):
        rows = [row + (number,) for row in rows for number in range(max(row) + 2)]
    return rows


def keeps_likeness(lab, row):
    """Whether a PARTITION is LIKE, by the words of [205]."""
    for one, two in product(range(len(row)), repeat=2):
        if row[one] == row[two]:
            for a, b in zip(lab[0][one], lab[0][two]):
                if (a is None) != (b is None) or (a is not None and row[a] != row[b]):
                    return False
            for after, _, _ in lab[1]:
                if {row[x] for x in after[one]} != {row[x] for x in after[two]}:
                    return False
    return True


def pair(one, two):
    return (min(one, two), max(one, two))


def holds(lab, one, two, reason, lesser):
    """Whether a REASON parts two states by pairs with lesser LEVELS, by the words of [205]."""
    if reason[0] == "stuff":
        return (lab[0][one][reason[1]] is None) != (lab[0][two][reason[1]] is None)
    if reason[0] == "touch":
        a, b = lab[0][one][reason[1]], lab[0][two][reason[1]]
        return a is not None and b is not None and pair(a, b) in lesser
    _, wash, side, state = reason
    mine, others = (lab[1][wash][0][x] for x in ((one, two), (two, one))[side])
    return state in mine and all(pair(state, other) in lesser for other in others)


def all_reasons(lab):
    """All REASONS by their form, in the order in which they are told."""
    stuffs, states = range(len(lab[0][0])), range(len(lab[0]))
    return [(word, stuff) for word in ("stuff", "touch") for stuff in stuffs] + [
        ("wash", wash, side, state) for wash in range(len(lab[1])) for side in (0, 1) for state in states]


def literal_paper(lab):
    """For each pair its least LEVEL and first REASON."""
    told = {}
    level = 0
    while True:
        level += 1
        new = {}
        for one in range(len(lab[0])):
            for two in range(one + 1, len(lab[0])):
                if (one, two) not in told:
                    reasons = [r for r in all_reasons(lab) if holds(lab, one, two, r, told)]
                    if reasons:
                        new[one, two] = (level, reasons[0])
        if not new:
            return told
        told.update(new)


class ClassesTest(unittest.TestCase):
    def test_like_partitions(self):
        for lab in LABS + [WASH_LAB]:
            if len(lab[0]) > 4:
                continue
            right = [row for row in partitions(len(lab[0])) if keeps_likeness(lab, row)]
            for row in partitions(len(lab[0])):
                self.assertIs(is_like(lab, row), row in right)
            self.assertEqual(state_classes(lab), min(right, key=max))

    def test_by_hand(self):
        self.assertEqual(state_classes(LEAST_LAB), (0,))
        self.assertEqual(state_classes(WASH_LAB), (0, 1, 2, 1))
        self.assertEqual(state_classes((((0,),) * 8, (), 1, 1, 0)), (0,) * 8)
        self.assertEqual(state_classes(DOC_LAB), (0, 1, 2))

    def test_no_like_partitions(self):
        lab = (((0,),) * 3, (), 1, 1, 0)
        for row in ((0, 0, 0), (0, 1, 1), (0, 0, 1), (0, 1, 0), (0, 1, 2)):
            self.assertIs(is_like(lab, row), True)
        for row in ((0, 0), (0, 0, 0, 0), (1, 1, 1), (1, 0, 0), (0, 2, 1), (0, 0, 2), (0, 1, 3), [0, 0, 0], (0, 0, -1),
                    (0, 0, False), (False, 0, 0), (0, True, True), (0, None, 0), (None,) * 3, ("0",) * 3, ((0,),) * 3,
                    ()):
            self.assertIs(is_like(lab, row), False)
        for wrong in NO_TUPLES:
            self.assertIs(is_like(lab, wrong), False)

    def test_merged(self):
        less = 0
        for lab in LABS + [WASH_LAB]:
            classes, new = state_classes(lab), merged(lab)
            self.assertTrue(is_lab(new))
            self.assertEqual(new[2:], lab[2:])
            self.assertEqual(len(new[0]), max(classes) + 1)
            self.assertEqual([wash[1:] for wash in new[1]], [wash[1:] for wash in lab[1]])
            for state, number in enumerate(classes):
                self.assertEqual(new[0][number], tuple(None if b is None else classes[b] for b in lab[0][state]))
                for one, other in zip(new[1], lab[1]):
                    self.assertEqual(one[0][number], tuple(sorted({classes[x] for x in other[0][state]})))
            self.assertEqual(merged(new), new)
            less += len(new[0]) < len(lab[0])
        self.assertGreater(less, 10)
        form = (((1, 0), (1, None), (1, None)), ((((0,), (1,), (0, 1)), 1, 1),), 1, 1, 0)
        self.assertEqual(merged(WASH_LAB), form)

    def test_washing_is_the_same_from_like_states(self):
        for lab in LABS:
            classes = state_classes(lab)
            if len(lab[0]) == 4 and len(lab[0][0]) == 1:
                for state in range(4):
                    told = washing(lab, state, (3,))
                    self.assertEqual(told, washing(lab, classes.index(classes[state]), (3,)))
                    self.assertEqual(told, washing(merged(lab), classes[state], (3,)))

    def test_soonest_is_the_same_in_the_merged_lab(self):
        for task in random_tasks(35, 15, samples=1, states=4, stuffs=1, washes=1, tools=1, arms=1):
            classes = state_classes(task[0])
            for state in range(4):
                one = literal_soonest(task, (start(task)[0], ((state, ()),)))
                self.assertEqual(one, literal_soonest(
                    (merged(task[0]), task[1]), (start(task)[0], ((classes[state], ()),))))


class PaperTest(unittest.TestCase):
    def test_the_told_one(self):
        sorts = set()
        for lab in LABS + [WASH_LAB]:
            told, classes = literal_paper(lab), state_classes(lab)
            for one, two in product(range(len(lab[0])), repeat=2):
                rows = parting_paper(lab, one, two)
                self.assertEqual(rows is None, classes[one] == classes[two])
                if rows is None:
                    self.assertEqual(paper_fault(lab, one, two, ()), -1)
                    continue
                self.assertEqual(rows, parting_paper(lab, two, one))
                self.assertEqual([row[2:] for row in rows], [told[row[:2]] for row in rows])
                self.assertIsNone(paper_fault(lab, one, two, rows))
                self.assertIsNone(paper_fault(lab, two, one, rows))
                for index in range(len(rows)):
                    less = rows[:index] + rows[index + 1:]
                    self.assertIsNotNone(paper_fault(lab, one, two, less))
                sorts |= {(row[3][0], min(row[2], 3)) for row in rows}
                sorts |= {row[3][2] for row in rows if row[3][0] == "wash"}
        self.assertLessEqual({("stuff", 1), ("touch", 2), ("wash", 2), ("wash", 3), 0, 1}, sorts)

    def test_by_hand(self):
        self.assertEqual(parting_paper(WASH_LAB, 2, 1), ((0, 1, 1, ("stuff", 1)), (0, 3, 1, ("stuff", 1)),
                                                         (1, 2, 2, ("wash", 0, 1, 0))))
        self.assertEqual(parting_paper(WASH_LAB, 2, 3), ((0, 1, 1, ("stuff", 1)), (2, 3, 2, ("wash", 0, 0, 0))))
        self.assertIsNone(parting_paper(WASH_LAB, 1, 3))
        self.assertIsNone(parting_paper(WASH_LAB, 2, 2))
        self.assertEqual(parting_paper(DOC_LAB, 2, 1), ((1, 2, 1, ("stuff", 0)),))

    def test_other_papers(self):
        for lab in LABS[:50] + [WASH_LAB]:
            for one, two in product(range(len(lab[0])), repeat=2):
                rows = parting_paper(lab, one, two) or ()
                for index, row in enumerate(rows):
                    others = [row[:3] + (reason,) for reason in all_reasons(lab)]
                    for other in others + [row[:2] + (level,) + row[3:] for level in (1, 2, 3, 10 ** 30)]:
                        value = rows[:index] + (other,) + rows[index + 1:]
                        self.assertEqual(paper_fault(lab, one, two, value), self.literal_fault(lab, one, two, value))

    def literal_fault(self, lab, one, two, rows):
        for index, (a, b, level, reason) in enumerate(rows):
            if not holds(lab, a, b, reason, {row[:2] for row in rows if row[2] < level}):
                return index
        return None if pair(one, two) in [row[:2] for row in rows] else -1

    def test_wrong_forms(self):
        rows = parting_paper(WASH_LAB, 2, 1)
        for wrong in NO_TUPLES + (list(rows),):
            self.assertEqual(paper_fault(WASH_LAB, 2, 1, wrong), -2)
        for place in places(rows)[1:]:
            for wrong in NEVER_RIGHT + (None,):
                if len(place) == 2 and place[1] == 2 and type(wrong) is int and wrong > 0:
                    continue
                self.assertEqual(paper_fault(WASH_LAB, 2, 1, changed(rows, place, wrong)), -2, (place, wrong))
        for row in ((0, 1, 0, ("stuff", 1)), (0, 1, -1, ("stuff", 1)), (1, 0, 1, ("stuff", 1)), (1, 1, 1, ("stuff", 1)),
                    (0, 4, 1, ("stuff", 1)), (-1, 1, 1, ("stuff", 1)), (0, 1, 1, ("stuff", 2)), (0, 1, 1, ("stuff",
                            -1)),
                    (0, 1, 1, ("touch", 2)), (0, 1, 1, ("stuff",)), (0, 1, 1, ("stuff", 1, 0)), (0, 1, 1, ("touch", 0,
                            0)),
                    (0, 1, 1, ("wash", 0, 0)), (0, 1, 1, ("wash", 1, 0, 0)), (0, 1, 1, ("wash", 0, 2, 0)),
                    (0, 1, 1, ("wash", 0, -1, 0)), (0, 1, 1, ("wash", 0, 0, 4)), (0, 1, 1, ("wash", 0, 0, -1)), (0, 1,
                            1),
                    (0, 1, 1, ("leaves", 0)), (0, 1, 1, ("stuff", 1), 0), (0, 1, 1, ()), (), (0, 1, 1, ("wash", -1, 0,
                            0))):
            self.assertEqual(paper_fault(WASH_LAB, 2, 1, (row,) + rows[1:]), -2, row)
            # The form and the order of all rows are looked at ahead of any REASON.
            self.assertEqual(paper_fault(WASH_LAB, 2, 1, ((0, 1, 1, ("stuff", 0)), row)), -2)

    def test_order(self):
        one, two, three = parting_paper(WASH_LAB, 2, 1)
        for value, fault in (((two, one, three), -2), ((one, one, two, three), -2), ((one, three, two), -2),
                             ((one, two, three, three), -2), ((one, two, three), None), ((one, two), -1), ((), -1),
                             ((one, three), 1), ((one[:3] + (("stuff", 0),), two, three), 0),
                             ((one, two, three[:2] + (1,) + three[3:]), 2), ((one, one[:2] + (2, one[3]), three), -2)):
            self.assertEqual(paper_fault(WASH_LAB, 2, 1, value), fault)
        for state in range(4):
            self.assertEqual(paper_fault(WASH_LAB, state, state, (one, two, three)), -1)


class ErrorsTest(unittest.TestCase):
    def test_arguments_in_their_order(self):
        for call in (state_classes, merged):
            with self.assertRaises(BadLab):
                call(LEAST_LAB[:4])
        with self.assertRaises(BadLab):
            is_like(LEAST_LAB[:4], (0,))
        for call, more in ((parting_paper, ()), (paper_fault, ("x",))):
            with self.assertRaises(BadLab):
                call(LEAST_LAB[:4], "x", "y", *more)
            for wrong in NEVER_RIGHT + (None, 3, -1):
                with self.assertRaises(BadState) as caught:
                    call(DOC_LAB, wrong, "y", *more)
                self.assertIs(caught.exception.value, wrong)
                with self.assertRaises(BadState) as caught:
                    call(DOC_LAB, 2, wrong, *more)
                self.assertIs(caught.exception.value, wrong)


if __name__ == "__main__":
    unittest.main()
