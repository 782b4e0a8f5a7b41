"""[204]: COURSE BARS."""

import unittest

from tests.examples import (
    DOC_LAB, LEAST_LAB, NEVER_RIGHT, NO_TUPLES, WRONG_LOTS, changed, literal_deeds, literal_washing, nodes, places)
from washedarms.bars import course_bar, course_bar_fault, is_course_bar
from washedarms.courses import washing
from washedarms.errors import BadLab, BadLot, BadState, BadTicks, TooGreat

BAR = ((1, (0, 1), None, (1,)), (2, (1, 0), 3, (0,)), (2, (1, 1), 3, (0,)))


def greatness(ticks):
    """None is greater than each number."""
    return (1, 0) if ticks is None else (0, ticks)


def literal_bar(lab, state, lot):
    """The COURSE BAR that is told, by the words of [204]."""
    rows = {}
    ahead = [(state, lot)]
    while ahead:
        node = ahead.pop()
        ticks = literal_washing(lab, *node)
        if ticks == 0 or node in rows:
            continue
        answers = tuple(
            max(after[node[0]], key=lambda one: greatness(literal_washing(lab, one, node[1])))
            for after, _, _ in lab[1])
        rows[node] = (ticks, answers)
        for deed, (_, behind) in literal_deeds(lab, *node).items():
            ahead += behind if deed[0] == 0 else [(answers[deed[1]], node[1])]
    return tuple(sorted((node + row for node, row in rows.items()), key=lambda row: row[:2]))


def row_fault(lab, paper):
    """The first row of the right form that breaks a rule of [204]."""
    told = {row[:2]: row[2] for row in paper}
    for index, (state, lot, ticks, answers) in enumerate(paper):
        for deed, (_, behind) in literal_deeds(lab, state, lot).items():
            if deed[0] == 0 and (behind[0] not in told or greatness(told[behind[0]]) < greatness(ticks)):
                return (index, "touch")
        for wash, answer in enumerate(answers):
            other = told.get((answer, lot), 0)
            if other is not None and (ticks is None or other + lab[1][wash][2] < ticks):
                return (index, "answer")
    return None


class BarTest(unittest.TestCase):
    def test_the_told_one(self):
        for lab, state, lot in nodes():
            ticks, bar = washing(lab, state, lot), course_bar(lab, state, lot)
            self.assertEqual(bar, literal_bar(lab, state, lot))
            self.assertEqual(bar == (), ticks == 0)
            self.assertIsNone(course_bar_fault(lab, bar))
            most = 9 if ticks is None else ticks
            for less in range(most + 1):
                self.assertIs(is_course_bar(lab, state, lot, less, bar), True)
            self.assertIs(is_course_bar(lab, state, lot, most + 1, bar), ticks is None)
            self.assertIs(is_course_bar(lab, state, lot, 10 ** 900, bar), ticks is None)
            self.assertIs(is_course_bar(lab, state, lot, None, bar), ticks is None)

    def test_the_examples(self):
        self.assertEqual(course_bar(DOC_LAB, 1, (0, 1)), ((1, (0, 1), None, (1,)),))
        self.assertEqual(course_bar(DOC_LAB, 2, (1, 0)), BAR[1:2])
        self.assertEqual(course_bar(DOC_LAB, 2, (1, 1)), ((0, (1, 1), 3, (0,)),) + BAR)
        self.assertEqual(course_bar(DOC_LAB, 2, (0, 0)), ())
        self.assertEqual(course_bar(DOC_LAB, 0, (3, 0)), ())
        # Of two states that lead to the same the lesser one is told; None is greater than each number.
        lab = (((1,), (None,), (None,)), ((((0,), (0, 2), (0,)), 1, 2), (((0,), (1, 2), (2,)), 1, 1)), 1, 1, 0)
        self.assertEqual(course_bar(lab, 1, (1,)), ((1, (1,), 4, (2, 1)), (2, (1,), 2, (0, 2))))
        lab = (((1,), (None,), (None,)), ((((0,), (0, 2), (2,)), 1, 2),), 1, 1, 0)
        self.assertEqual(course_bar(lab, 1, (1,)), ((1, (1,), None, (2,)), (2, (1,), None, (2,))))

    def test_other_papers(self):
        for lab, state, lot in nodes():
            bar = course_bar(lab, state, lot)
            for index, row in enumerate(bar):
                self.check(lab, bar[:index] + bar[index + 1:])
                for ticks in (1, 2, None, (row[2] or 5) - 1, (row[2] or 5) + 1, 10 ** 30):
                    if ticks != 0:
                        self.check(lab, changed(bar, (index, 2), ticks))
                for wash, (after, _, _) in enumerate(lab[1]):
                    for answer in after[row[0]]:
                        self.check(lab, changed(bar, (index, 3, wash), answer))

    def check(self, lab, paper):
        fault = row_fault(lab, paper)
        self.assertEqual(course_bar_fault(lab, paper), fault)
        for state, lot, ticks, _ in paper:
            if ticks is None:
                self.assertIs(is_course_bar(lab, state, lot, None, paper), fault is None)
                self.assertIs(is_course_bar(lab, state, lot, 7, paper), fault is None)
            else:
                for more in (-1, 0, 1):
                    right = fault is None and (more < 1 or ticks + more == 0)
                    self.assertIs(is_course_bar(lab, state, lot, ticks + more, paper), right)
                self.assertIs(is_course_bar(lab, state, lot, None, paper), False)

    def test_ticks_0(self):
        self.assertIs(is_course_bar(DOC_LAB, 0, (1, 0), 0, ()), True)
        self.assertIs(is_course_bar(DOC_LAB, 0, (0, 0), 0, BAR), True)
        self.assertIs(is_course_bar(DOC_LAB, 0, (0, 0), 1, BAR), False)
        self.assertIs(is_course_bar(DOC_LAB, 0, (0, 0), None, BAR), False)
        self.assertIs(is_course_bar(DOC_LAB, 0, (1, 0), 0, BAR[2:]), False)
        self.assertIs(is_course_bar(DOC_LAB, 0, (1, 0), 0, None), False)
        self.assertIs(is_course_bar(DOC_LAB, 0, (0, 1), 1, ()), False)

    def test_wrong_papers(self):
        for wrong in NO_TUPLES + (list(BAR),):
            self.assertEqual(course_bar_fault(DOC_LAB, wrong), (-1, "form"))
        self.assertIsNone(course_bar_fault(DOC_LAB, ()))
        self.assertIsNone(course_bar_fault(DOC_LAB, BAR))
        for place in places(BAR)[1:]:
            for wrong in NEVER_RIGHT + (None,):
                if place[1:] == (2,) and (wrong is None or (type(wrong) is int and wrong > 0)):
                    continue
                self.assertEqual(course_bar_fault(DOC_LAB, changed(BAR, place, wrong)), (place[0], "form"))

    def test_forms_of_rows(self):
        for row in ((2, (1, 0), 3), (2, (1, 0), 3, (0,), 0), (), (3, (1, 0), 3, (0,)), (-1, (1, 0), 3, (0,)),
                    (2, (0, 0), 3, (0,)), (2, (1,), 3, (0,)), (2, (13, 0), 3, (0,)), (2, (1, 0), 0, (0,)),
                    (2, (1, 0), -1, (0,)), (2, (1, 0), 3, ()), (2, (1, 0), 3, (0, 0)), (2, (1, 0), 3, (1,)),
                    (2, (1, 0), 3, (2,)), (2, (1, 0), 3, [0]), (2, (1, 0), 3, (None,)), (2, (1, 0), 3, None),
                    (2, (1, 0), True, (0,)), (2, (1, 0), 3, (False,)), (2, (1, 0), 3, 0)):
            self.assertEqual(course_bar_fault(DOC_LAB, (BAR[0], row, BAR[2])), (1, "form"), row)
            self.assertEqual(course_bar_fault(DOC_LAB, (BAR[2], row)), (1, "form"), row)

    def test_answers_of_several_washes(self):
        lab = (DOC_LAB[0], DOC_LAB[1] + ((((0,), (1, 2), (2,)), 2, 5),)) + DOC_LAB[2:]
        for answers, right in (((0, 2), True), ((1, 1), True), ((0, 0), False), ((2, 2), False), ((0, 2, 0), False),
                               ((0,), False), ((0, True), False), ((False, 2), False)):
            fault = course_bar_fault(lab, ((1, (0, 1), 1, answers),))
            self.assertEqual(fault == (0, "form"), not right)

    def test_order_and_rules(self):
        one, two, three = BAR
        for paper, fault in (((two, one), (1, "order")), ((one, one), (1, "order")), ((one, three, two), (2, "order")),
                             ((one, two, two[:2] + (1, (0,))), (2, "order")), ((three,), (0, "touch")),
                             ((changed(two, (2,), 2), three), (1, "touch")), ((changed(two, (2,), None), three), (0,
                                     "answer")),
                             ((two, changed(three, (2,), None)), (1, "touch")),
                             ((changed(two, (2,), 4), three), (0, "answer")), ((changed(two, (2,), 2),), None),
                             ((changed(one, (3,), (0,)),), (0, "answer")), ((changed(one, (2,), 9),), None),
                             ((changed(one, (2,), 4), changed(two, (2,), 1)), None)):
            self.assertEqual(course_bar_fault(DOC_LAB, paper), fault, paper)
        # A touch is told ahead of an answer of the same row, an answer ahead of a touch of a later row.
        self.assertEqual(course_bar_fault(DOC_LAB, (changed(three, (2,), 9),)), (0, "touch"))
        self.assertEqual(course_bar_fault(DOC_LAB, (changed(two, (2,), 9), changed(three, (2,), 10))), (0, "answer"))
        # A touch that empties the LOT leads to no row.
        self.assertEqual(course_bar_fault(DOC_LAB, ((0, (1, 0), 1, (0,)),)), (0, "touch"))


class ErrorsTest(unittest.TestCase):
    def test_arguments_in_their_order(self):
        for call, more in ((course_bar, ()), (is_course_bar, (-1, "x"))):
            with self.assertRaises(BadLab):
                call(LEAST_LAB[:4], "x", "y", *more)
            for wrong in NEVER_RIGHT + (None, 3, -1):
                with self.assertRaises(BadState) as caught:
                    call(DOC_LAB, wrong, "y", *more)
                self.assertIs(caught.exception.value, wrong)
            for wrong in WRONG_LOTS:
                with self.assertRaises(BadLot) as caught:
                    call(DOC_LAB, 1, wrong, *more)
                self.assertIs(caught.exception.value, wrong)
        for wrong in NEVER_RIGHT + (-1, (), (1,)):
            if type(wrong) is int and wrong > 0:
                continue
            with self.assertRaises(BadTicks) as caught:
                is_course_bar(DOC_LAB, 1, (0, 0), wrong, "x")
            self.assertIs(caught.exception.value, wrong)
        with self.assertRaises(BadLab):
            course_bar_fault(LEAST_LAB[:4], "x")

    def test_too_great(self):
        lab = (((0, 0, 0),) * 7, (), 1, 1, 0)
        with self.assertRaises(TooGreat) as caught:
            course_bar(lab, 0, (1, 10, 12))
        self.assertEqual(caught.exception.most, 2000)
        self.assertEqual(course_bar((((0, 0, 0, 0),) * 4, (), 1, 1, 0), 0, (4, 4, 4, 3)), ())
        self.assertIs(is_course_bar(lab, 0, (1, 10, 12), 0, ()), True)


if __name__ == "__main__":
    unittest.main()
