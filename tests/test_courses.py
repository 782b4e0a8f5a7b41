"""[202], [203]: DEEDS, WASHING, COURSE PLANS."""

import unittest

from tests.examples import (
    DOC_LAB, GAME_LABS, GREAT_LAB, LEAST_LAB, NEVER_RIGHT, NO_TUPLES, WRONG_LOTS, changed, literal_deeds,
    literal_washing, nodes, places, random_labs)
from washedarms.courses import course_plan, course_plan_fault, deeds, is_course_plan, washing
from washedarms.errors import BadLab, BadLot, BadState, BadTicks, TooGreat

PLAN = ((0, (1, 0), (0, 0), 0), (2, (1, 0), (1, 0), 3), (2, (1, 1), (0, 1), 3))


def literal_plan(lab, state, lot):
    """The COURSE PLAN that is told, by the words of [204]."""
    rows = {}
    ahead = [(state, lot)]
    while ahead:
        node = ahead.pop()
        ticks = literal_washing(lab, *node)
        if sum(node[1]) == 0 or node in rows:
            continue
        for deed, (cost, behind) in sorted(literal_deeds(lab, *node).items()):
            values = [literal_washing(lab, *one) for one in behind]
            if None not in values and cost + max(values) <= ticks:
                rows[node] = (deed, ticks)
                ahead += behind
                break
    return tuple(sorted(node + row for node, row in rows.items()))


def deed_fault(lab, paper):
    """The first row of the right form that breaks the rule on what its DEED leads to."""
    told = {row[:2]: row[3] for row in paper}
    for index, (state, lot, deed, ticks) in enumerate(paper):
        cost, behind = literal_deeds(lab, state, lot)[deed]
        if any(sum(node[1]) and (node not in told or told[node] > ticks - cost) for node in behind):
            return (index, "deed")
    return None


class WashingTest(unittest.TestCase):
    def test_deeds(self):
        for lab, state, lot in nodes():
            self.assertEqual(deeds(lab, state, lot), tuple(sorted(literal_deeds(lab, state, lot))))
        self.assertEqual(deeds(DOC_LAB, 0, (1, 1)), ((0, 0), (0, 1), (1, 0)))
        self.assertEqual(deeds(DOC_LAB, 1, (0, 12)), ((1, 0),))
        self.assertEqual(deeds(DOC_LAB, 1, (1, 1)), ((0, 0), (1, 0)))
        self.assertEqual(deeds(DOC_LAB, 1, (0, 0)), ())
        self.assertEqual(deeds(LEAST_LAB, 0, (12,)), ((0, 0),))
        self.assertEqual(deeds(GREAT_LAB, 1, (12, 12) + (0,) * 6), ((0, 1), (1, 0), (1, 1), (1, 2)))

    def test_washing(self):
        found = set()
        for lab, state, lot in nodes():
            ticks = washing(lab, state, lot)
            self.assertEqual(ticks, literal_washing(lab, state, lot))
            self.assertIn(type(ticks), (int, type(None)))
            found.add(ticks)
        self.assertLessEqual({None, 0, 1, 2, 3, 4}, found)

    def test_the_example(self):
        self.assertIsNone(washing(DOC_LAB, 1, (0, 1)))
        self.assertEqual(washing(DOC_LAB, 2, (1, 1)), 3)
        self.assertEqual(washing(DOC_LAB, 0, (0, 0)), 0)
        self.assertEqual(washing(DOC_LAB, 0, (12, 0)), 0)
        self.assertEqual(washing(DOC_LAB, 0, (12, 12)), 3)

    def test_several_washes(self):
        # A slow wash that cleans, and a quick one that cleans only by way of the state 2.
        lab = (((1,), (None,), (None,)), ((((0,), (0,), (0,)), 1, 6), (((0,), (2,), (0,)), 1, 2)), 1, 1, 0)
        self.assertEqual(washing(lab, 0, (4,)), 12)
        self.assertEqual(washing(lab, 1, (1,)), 4)
        self.assertEqual(course_plan(lab, 1, (1,)), ((0, (1,), (0, 0), 0), (1, (1,), (1, 1), 4), (2, (1,), (1, 1), 2)))
        # Each wash takes its HIGH; what it may leave is answered by the worst.
        lab = (((1,), (None,), (None,)), ((((0,), (0, 2), (2,)), 1, 2), (((0,), (1,), (0,)), 1, 5)), 1, 1, 0)
        self.assertEqual(washing(lab, 1, (1,)), 7)

    def test_great_lots(self):
        self.assertEqual(washing(LEAST_LAB, 0, (12,)), 0)
        clean = lambda states, stuffs: (((0,) * stuffs,) * states, (), 1, 1, 0)
        for lab, lot, right in ((clean(2, 3), (9, 9, 5), True), (clean(8, 2), (12, 12), True),
                                (clean(5, 4), (4, 4, 4, 2), True), (clean(1, 3), (12, 6, 6), True),
                                (clean(2, 3), (9, 9, 9), False), (clean(5, 4), (4, 4, 3, 3), True),
                                (clean(4, 3), (7, 7, 7), False), (clean(8, 3), (4, 9, 4), True),
                                (clean(8, 3), (5, 9, 4), False), (clean(8, 8), (1,) * 7 + (0,), True),
                                (clean(8, 8), (1,) * 8, False)):
            many = len(lab[0])
            for uses in lot:
                many *= uses + 1
            if sum(lot) > 24:
                for call in (washing, course_plan):
                    with self.assertRaises(BadLot):
                        call(lab, 0, lot)
                continue
            self.assertEqual(many <= 2000, right)
            for call, told in ((washing, 0), (course_plan, None)):
                if right:
                    self.assertEqual(call(lab, 0, lot) == 0, told == 0)
                else:
                    with self.assertRaises(TooGreat) as caught:
                        call(lab, 0, lot)
                    self.assertEqual(caught.exception.most, 2000)
            self.assertEqual(len(deeds(lab, 0, lot)), len([uses for uses in lot if uses]))
            self.assertFalse(is_course_plan(lab, 0, lot, 5, ()))

    def test_just_2000_nodes(self):
        lab = (((0, 0, 0, 0),) * 4, (), 1, 1, 0)
        # 4 * 5 * 5 * 5 * 4 nodes are just 2000.
        self.assertEqual(washing(lab, 1, (4, 4, 4, 3)), 0)
        self.assertEqual(len(course_plan(lab, 1, (4, 4, 4, 3))), 15)
        with self.assertRaises(TooGreat):
            washing((((0, 0, 0, 0),) * 5, (), 1, 1, 0), 1, (4, 4, 4, 3))
        # 3 * 23 * 29 is 2001; 7 * 2 * 11 * 13 is 2002.
        with self.assertRaises(TooGreat):
            washing((((0, 0, 0),) * 7, (), 1, 1, 0), 0, (1, 10, 12))
        self.assertEqual(washing((((0, 0, 0),) * 6, (), 1, 1, 0), 0, (1, 10, 12)), 0)


class PlanTest(unittest.TestCase):
    def test_the_told_one(self):
        for lab, state, lot in nodes():
            ticks, plan = washing(lab, state, lot), course_plan(lab, state, lot)
            if ticks is None:
                self.assertIsNone(plan)
                continue
            self.assertEqual(plan, literal_plan(lab, state, lot))
            self.assertIsNone(course_plan_fault(lab, plan))
            for more in range(3):
                self.assertIs(is_course_plan(lab, state, lot, ticks + more, plan), True)
            self.assertIs(is_course_plan(lab, state, lot, 10 ** 900, plan), True)
            if ticks > 0:
                self.assertIs(is_course_plan(lab, state, lot, ticks - 1, plan), False)
            self.assertEqual(plan == (), sum(lot) == 0)

    def test_by_hand(self):
        self.assertEqual(course_plan(DOC_LAB, 2, (1, 1)), PLAN)
        self.assertIsNone(course_plan(DOC_LAB, 1, (0, 1)))
        self.assertEqual(course_plan(DOC_LAB, 1, (0, 0)), ())

    def test_other_papers(self):
        for lab, state, lot in nodes():
            plan = course_plan(lab, state, lot) or ()
            for index, row in enumerate(plan):
                self.check(lab, plan[:index] + plan[index + 1:])
                for ticks in (0, 1, row[3] - 1, row[3] + 1, 10 ** 30):
                    if ticks >= 0:
                        self.check(lab, changed(plan, (index, 3), ticks))
                for deed in deeds(lab, row[0], row[1]):
                    self.check(lab, changed(plan, (index, 2), deed))

    def check(self, lab, paper):
        fault = deed_fault(lab, paper)
        self.assertEqual(course_plan_fault(lab, paper), fault)
        for row in paper:
            for more in (-1, 0, 1):
                if row[3] + more >= 0:
                    self.assertIs(is_course_plan(lab, row[0], row[1], row[3] + more, paper),
                                  fault is None and more >= 0)

    def test_empty_lots(self):
        self.assertIs(is_course_plan(DOC_LAB, 2, (0, 0), 0, ()), True)
        self.assertIs(is_course_plan(DOC_LAB, 2, (0, 0), 0, PLAN), True)
        self.assertIs(is_course_plan(DOC_LAB, 2, (0, 0), 0, PLAN[1:]), False)
        self.assertIs(is_course_plan(DOC_LAB, 2, (1, 1), 9, ()), False)
        self.assertIs(is_course_plan(DOC_LAB, 1, (1, 0), 9, PLAN), False)

    def test_wrong_papers(self):
        for wrong in NO_TUPLES + (list(PLAN),):
            self.assertEqual(course_plan_fault(DOC_LAB, wrong), (-1, "form"))
            self.assertIs(is_course_plan(DOC_LAB, 2, (1, 1), 3, wrong), False)
        self.assertIsNone(course_plan_fault(DOC_LAB, ()))
        for place in places(PLAN)[1:]:
            for wrong in NEVER_RIGHT + (None,):
                if place[1:] == (3,) and type(wrong) is int and wrong > 0:
                    continue
                self.assertEqual(course_plan_fault(DOC_LAB, changed(PLAN, place, wrong)), (place[0], "form"))
                self.assertIs(is_course_plan(DOC_LAB, 2, (1, 1), 3, changed(PLAN, place, wrong)), False)

    def test_forms_of_rows(self):
        for row in ((0, (1, 0), (0, 0)), (0, (1, 0), (0, 0), 0, 0), (), (3, (1, 0), (0, 0), 0), (-1, (1, 0), (0, 0), 0),
                    (0, (0, 0), (0, 0), 0), (0, (1,), (0, 0), 0), (0, (13, 0), (0, 0), 0), (0, (1, 0), (0, 1), 0),
                    (0, (1, 0), (0, 2), 0), (0, (1, 0), (1, 1), 0), (0, (1, 0), (2, 0), 0), (0, (1, 0), (0,), 0),
                    (0, (1, 0), (0, 0, 0), 0), (0, (1, 0), None, 0), (0, (1, 0), (0, 0), -1), (0, (0, 0), (1, 0), 0),
                    (0, (1, 0), (0, -1), 0), (1, (0, 1), (0, 1), 0), (-1, (0, 1), (0, 1), 0), (0, (1, 0), (False, 0),
                            0)):
            self.assertEqual(course_plan_fault(DOC_LAB, (row,) + PLAN[1:]), (0, "form"), row)
            self.assertEqual(course_plan_fault(DOC_LAB, PLAN + (row,)), (3, "form"), row)
            # The form of all rows is looked at ahead of what deeds lead to.
            self.assertEqual(course_plan_fault(DOC_LAB, (PLAN[1], PLAN[2], row)), (2, "form"), row)

    def test_order(self):
        one, two, three = PLAN
        for paper, fault in (((two, one, three), (1, "order")), ((one, one, two), (1, "order")),
                             ((one, three, two), (2, "order")), ((one, two, two), (2, "order")),
                             ((one, two, two[:3] + (4,)), (2, "order")), ((one, three), (1, "deed")),
                             ((two, three), (0, "deed")), ((one, two, three[:3] + (2,)), (2, "deed")),
                             ((one, two[:3] + (2,), three), (1, "deed")), ((one[:3] + (1,), two, three), (1, "deed"))):
            self.assertEqual(course_plan_fault(DOC_LAB, paper), fault)

    def test_a_ring_of_washes_is_no_plan(self):
        lab = (((1,), (None,)), ((((0,), (1,)), 1, 1),), 1, 1, 0)
        for ticks in (0, 1, 5, 10 ** 30):
            self.assertEqual(course_plan_fault(lab, ((1, (1,), (1, 0), ticks),)), (0, "deed"))


class ErrorsTest(unittest.TestCase):
    def test_arguments_in_their_order(self):
        for call, more in ((deeds, ()), (washing, ()), (course_plan, ()), (is_course_plan, (-1, "x"))):
            with self.assertRaises(BadLab):
                call(LEAST_LAB[:4], "x", "y", *more)
            for wrong in NEVER_RIGHT + (None, 3, -1):
                with self.assertRaises(BadState) as caught:
                    call(DOC_LAB, wrong, "y", *more)
                self.assertIs(caught.exception.value, wrong)
            for wrong in WRONG_LOTS:
                with self.assertRaises(BadLot) as caught:
                    call(DOC_LAB, 1, wrong, *more)
                self.assertIs(caught.exception.value, wrong)
        for wrong in NEVER_RIGHT + (None, -1, (), (1,)):
            if type(wrong) is int and wrong > 0:
                continue
            with self.assertRaises(BadTicks) as caught:
                is_course_plan(DOC_LAB, 1, (0, 0), wrong, "x")
            self.assertIs(caught.exception.value, wrong)
        with self.assertRaises(BadLab):
            course_plan_fault(LEAST_LAB[:4], "x")

    def test_lots(self):
        for stuffs in (2, 3):
            lab = (((0,) * stuffs,), (), 1, 1, 0)
            self.assertEqual(washing(lab, 0, (12, 12) + (0,) * (stuffs - 2)), 0)
        for wrong in ((12, 12, 1), (9, 8, 8), (1, 12, 12), (13, 0, 0)):
            with self.assertRaises(BadLot):
                washing((((0, 0, 0),), (), 1, 1, 0), 0, wrong)

    def test_some_labs(self):
        self.assertEqual(len(GAME_LABS), 25)
        for lab in random_labs(32, 10, stuffs=1):
            self.assertEqual(washing(lab, 0, (1,)), 0)


if __name__ == "__main__":
    unittest.main()
