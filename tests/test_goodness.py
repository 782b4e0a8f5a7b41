"""[33], [34]: states as good as others, and LACKS of those that aren't."""

import unittest
from itertools import combinations, permutations

from tests.examples import (
    DOC_LAB, GREAT_LAB, LEAST_LAB, NEVER_RIGHT, changed, literal_soonest, places, random_labs, random_tasks)
from washedarms.errors import BadLab, BadState
from washedarms.goodness import as_good_pairs, is_as_good, is_simulation, lack, lack_fault
from washedarms.forms import start

LABS = [LEAST_LAB, DOC_LAB, GREAT_LAB] + random_labs(10, 60) + random_labs(11, 30, states=3, stuffs=1, washes=2)
# From 1 on: 1 may touch nothing that 2 may not; 3 lacks 2 by the wash alone; 4 lacks 3 by a touch of 3.
LACK_LAB = (
    ((0, 0, 0), (None, 0, None), (0, 1, None), (None, 0, None), (None, 3, None)),
    ((((0,), (0, 2), (2,), (1, 2), (4,)), 1, 1),), 1, 1, 0)


def keeps_rule(lab, pair, found):
    """Whether a pair keeps the rule of [33] by the pairs of a set."""
    one, two = pair
    for stuff in range(len(lab[0][0])):
        behind, other = lab[0][one][stuff], lab[0][two][stuff]
        if other is not None and (behind is None or (behind != other and (behind, other) not in found)):
            return False
    return all(any(x == y or (x, y) in found for y in wash[0][two]) for wash in lab[1] for x in wash[0][one])


def greatest_simulation(lab):
    """All unlike pairs of which the first is as good as the second."""
    found = set(permutations(range(len(lab[0])), 2))
    while True:
        kept = {pair for pair in found if keeps_rule(lab, pair, found)}
        if kept == found:
            return found
        found = kept


def literal_levels(lab):
    """The LEVEL and REASON of each pair that isn't as good, turn by turn as [34] tells."""
    left = set(permutations(range(len(lab[0])), 2))
    told = {}
    turn = 0
    while True:
        turn += 1
        falls = {pair for pair in left if not keeps_rule(lab, pair, left)}
        if not falls:
            return told
        for one, two in falls:
            reasons = [("stuff", s) for s, (a, b) in enumerate(zip(lab[0][one], lab[0][two]))
                       if a is None and b is not None]
            reasons += [("touch", s) for s, (a, b) in enumerate(zip(lab[0][one], lab[0][two]))
                        if a is not None and b is not None and a != b and (a, b) not in left]
            reasons += [("wash", w, x) for w, wash in enumerate(lab[1]) for x in wash[0][one]
                        if all(x != y and (x, y) not in left for y in wash[0][two])]
            told[one, two] = (turn, reasons[0])
        left -= falls


def row_holds(lab, rows, row):
    """Whether the REASON of a row holds, by the words of [34]."""
    one, two, level, reason = row
    lower = {(a, b) for a, b, other, _ in rows if other < level}
    if reason[0] == "stuff":
        return lab[0][two][reason[1]] is not None and lab[0][one][reason[1]] is None
    if reason[0] == "touch":
        return (lab[0][one][reason[1]], lab[0][two][reason[1]]) in lower
    return reason[2] in lab[1][reason[1]][0][one] and all(
        (reason[2], y) in lower for y in lab[1][reason[1]][0][two])


class GoodnessTest(unittest.TestCase):
    def test_as_good(self):
        for lab in LABS + [LACK_LAB]:
            found = greatest_simulation(lab)
            self.assertEqual(as_good_pairs(lab), tuple(sorted(found)))
            for one in range(len(lab[0])):
                for two in range(len(lab[0])):
                    self.assertIs(is_as_good(lab, one, two), one == two or (one, two) in found)
            self.assertIs(is_simulation(lab, as_good_pairs(lab)), True)

    def test_both_ways_come(self):
        many = [len(as_good_pairs(lab)) for lab in LABS]
        self.assertIn(0, many)
        self.assertGreater(len([one for one in many if one > 1]), 10)

    def test_as_good_goes_through_a_third_state(self):
        for lab in LABS:
            pairs = as_good_pairs(lab)
            for one, two in pairs:
                for three in range(len(lab[0])):
                    if (two, three) in pairs and three != one:
                        self.assertIn((one, three), pairs)

    def test_simulations_are_all_that_keep_the_rule(self):
        for lab in LABS:
            if len(lab[0]) > 3:
                continue
            pairs = list(permutations(range(len(lab[0])), 2))
            for many in range(len(pairs) + 1):
                for row in combinations(pairs, many):
                    right = all(keeps_rule(lab, pair, set(row)) for pair in row)
                    self.assertIs(is_simulation(lab, row), right)

    def test_no_simulations(self):
        lab = (((0,), (0,), (0,)), (), 1, 1, 0)
        self.assertIs(is_simulation(lab, ((0, 1), (1, 0))), True)
        self.assertIs(is_simulation(lab, ()), True)
        for wrong in (((1, 0), (0, 1)), ((0, 1), (0, 1)), ((0, 0),), ((0, 3),), ((-1, 0),), ((0, 1, 2),), ((0,),),
                      [(0, 1)], ([0, 1],), ((False, 1),), ((0, True),), (("0", 1),), ((None, 1),), (0, 1), None):
            self.assertIs(is_simulation(lab, wrong), False)
        for wrong in NEVER_RIGHT:
            self.assertIs(is_simulation(lab, wrong), False)
            self.assertIs(is_simulation(lab, ((0, 1), wrong)), False)

    def test_soonest_is_not_greater(self):
        for task in random_tasks(12, 25, samples=1, states=3, stuffs=2, tools=1, arms=1):
            for one, two in as_good_pairs(task[0]):
                better, worse = ((start(task)[0], ((state, ()),)) for state in (one, two))
                first, second = literal_soonest(task, better), literal_soonest(task, worse)
                self.assertTrue(second is None or (first is not None and first <= second))


class LackTest(unittest.TestCase):
    def test_levels_and_reasons(self):
        sorts = set()
        for lab in LABS + [LACK_LAB]:
            told = literal_levels(lab)
            for one in range(len(lab[0])):
                for two in range(len(lab[0])):
                    rows = lack(lab, one, two)
                    self.assertEqual(rows is None, is_as_good(lab, one, two))
                    if rows is not None:
                        self.assertEqual([row[2:] for row in rows], [told[row[:2]] for row in rows])
                        self.assertIsNone(lack_fault(lab, one, two, rows))
                        sorts |= {(row[3][0], min(row[2], 3)) for row in rows}
        self.assertLessEqual({("stuff", 1), ("touch", 2), ("touch", 3), ("wash", 2), ("wash", 3)}, sorts)

    def test_just_the_rows_that_are_needed(self):
        for lab in LABS + [LACK_LAB]:
            for one, two in permutations(range(len(lab[0])), 2):
                rows = lack(lab, one, two)
                for index in range(len(rows or ())):
                    less = rows[:index] + rows[index + 1:]
                    self.assertIsNotNone(lack_fault(lab, one, two, less))

    def test_by_hand(self):
        self.assertEqual(lack(LACK_LAB, 1, 2), ((1, 2, 1, ("stuff", 0)),))
        self.assertEqual(lack(LACK_LAB, 0, 1), None)
        self.assertEqual(lack(LACK_LAB, 3, 1), (
            (1, 0, 1, ("stuff", 0)), (1, 2, 1, ("stuff", 0)), (3, 1, 2, ("wash", 0, 1))))
        self.assertEqual(lack(LACK_LAB, 4, 1), ((3, 0, 1, ("stuff", 0)), (4, 1, 2, ("touch", 1))))
        self.assertEqual(lack(LACK_LAB, 1, 0), ((1, 0, 1, ("stuff", 0)),))
        # The least stuff is told, and stuffs are told ahead of what touches lead to.
        lab = (((0, 0, 0), (None, 1, None)), (), 1, 1, 0)
        self.assertEqual(lack(lab, 1, 0), ((1, 0, 1, ("stuff", 0)),))

    def test_first_reasons(self):
        # Two stuffs, two washes and two results would serve: the first one is told.
        meets = ((0, 0, 0), (1, 1, None), (2, 2, 0))
        lab = (meets, (), 1, 1, 0)
        self.assertEqual(lack(lab, 1, 2), ((1, 2, 1, ("stuff", 2)),))
        lab = (((0, 0), (None, None), (1, 1), (0, 0)), (), 1, 1, 0)
        self.assertEqual(lack(lab, 2, 3), ((1, 0, 1, ("stuff", 0)), (2, 3, 2, ("touch", 0))))
        after = ((0,), (1,), (1, 2), (3,))
        lab = (((0,), (None,), (2,), (3,)), ((after, 1, 1), (after, 1, 1)), 1, 1, 0)
        self.assertEqual(lack(lab, 2, 3), ((1, 3, 1, ("stuff", 0)), (2, 3, 2, ("wash", 0, 1))))


class LackFaultTest(unittest.TestCase):
    def literal_fault(self, lab, one, two, rows):
        """The fault of rows of the right form and order."""
        for index, row in enumerate(rows):
            if not row_holds(lab, rows, row):
                return index
        return None if (one, two) in [row[:2] for row in rows] else -1

    def test_rows_of_the_right_form(self):
        for lab in LABS[:40] + [LACK_LAB]:
            told = literal_levels(lab)
            for one, two in told:
                rows = lack(lab, one, two)
                for index, row in enumerate(rows):
                    for other in self.like_rows(lab, row):
                        value = rows[:index] + (other,) + rows[index + 1:]
                        self.assertEqual(lack_fault(lab, one, two, value), self.literal_fault(lab, one, two, value))
                all_rows = tuple(sorted(pair + told[pair] for pair in told))
                self.assertIsNone(lack_fault(lab, one, two, all_rows))
                self.assertEqual(lack_fault(lab, one, two, tuple(
                    row for row in all_rows if row[:2] != (one, two) and row[2] == 1)), -1)

    def like_rows(self, lab, row):
        """Rows like a row with one number changed."""
        found = [row[:2] + (level,) + row[3:] for level in (1, 2, 3, 4, 10 ** 30)]
        found += [row[:3] + ((word, stuff),) for word in ("stuff", "touch") for stuff in range(len(lab[0][0]))]
        found += [row[:3] + (("wash", wash, x),) for wash in range(len(lab[1])) for x in range(len(lab[0]))]
        return found

    def test_as_good_ones_have_none(self):
        for lab in LABS:
            told = literal_levels(lab)
            rows = tuple(sorted(pair + told[pair] for pair in told))
            for one, two in [(state, state) for state in range(len(lab[0]))] + list(as_good_pairs(lab)):
                self.assertEqual(lack_fault(lab, one, two, rows), -1)
                self.assertEqual(lack_fault(lab, one, two, ()), -1)

    def test_no_rows(self):
        rows = lack(LACK_LAB, 3, 1)
        for wrong in NEVER_RIGHT + (None, list(rows)):
            self.assertEqual(lack_fault(LACK_LAB, 3, 1, wrong), -1)

    def test_wrong_forms(self):
        rows = lack(LACK_LAB, 3, 1)
        for place in places(rows)[1:]:
            for wrong in NEVER_RIGHT + (None,):
                if len(place) == 2 and place[1] == 2 and type(wrong) is int and wrong > 0:
                    continue
                if type(wrong) is str and len(place) == 3 and place[2] == 0 and wrong in ("wash", "stuff"):
                    continue
                self.assertEqual(lack_fault(LACK_LAB, 3, 1, changed(rows, place, wrong)), place[0], (place, wrong))
        for wrong in ((1, 2, 0, ("stuff", 0)), (1, 2, 1, ("stuff", 3)), (1, 2, 1, ("stuff", -1)), (1, 2, 1, ("stuff",)),
                      (1, 2, 1, ("stuff", 0, 0)), (1, 2, 1, ("touch", 3)), (1, 2, 1, ("touch", 0, 1)),
                      (1, 2, 1, ("wash", 0)), (1, 2, 1, ("wash", 1, 0)), (1, 2, 1, ("wash", 0, 5)), (1, 2, 1, ()),
                      (1, 2, 1, ("wash", 0, -1)), (1, 2, 1, ("wash", -1, 0)), (1, 2, 1, ("leaves", 0)), (1, 2, 1),
                      (1, 5, 1, ("stuff", 0)), (5, 1, 1, ("stuff", 0)), (1, 1, 1, ("stuff", 0)), (),
                      (1, 2, 1, ("stuff", 0), 0), (1, -1, 1, ("stuff", 0))):
            self.assertEqual(lack_fault(LACK_LAB, 3, 1, (rows[0], wrong, rows[2])), 1, wrong)
            # The form of all rows is looked at ahead of any REASON.
            self.assertEqual(lack_fault(LACK_LAB, 3, 1, ((0, 1, 1, ("stuff", 0)), wrong)), 1)

    def test_order_of_rows(self):
        one, two, three = lack(LACK_LAB, 3, 1)
        for value, fault in (((two, one, three), 1), ((one, one, two, three), 1), ((one, three, two), 2),
                             ((one, two, three, three), 3), ((one, two, three), None),
                             ((one, one[:2] + (2, ("stuff", 1)), three), 1)):
            self.assertEqual(lack_fault(LACK_LAB, 3, 1, value), fault)

    def test_a_lesser_level(self):
        for level, fault in ((1, 2), (2, None), (3, None)):
            rows = lack(LACK_LAB, 3, 1)
            self.assertEqual(lack_fault(LACK_LAB, 3, 1, changed(rows, (2, 2), level)), fault)

    def test_a_stuff_that_the_other_may_not_touch_either(self):
        self.assertEqual(lack_fault(LACK_LAB, 1, 3, ((1, 3, 1, ("stuff", 0)),)), 0)
        self.assertEqual(lack_fault(LACK_LAB, 2, 1, ((2, 1, 1, ("stuff", 0)),)), 0)
        self.assertEqual(lack_fault(LACK_LAB, 0, 1, ((0, 1, 1, ("stuff", 1)),)), 0)


class ErrorsTest(unittest.TestCase):
    def test_arguments_in_their_order(self):
        wrong = LEAST_LAB[:4]
        for call, states, more in ((is_as_good, 2, ()), (lack, 2, ()), (lack_fault, 2, ("x",)), (as_good_pairs, 0, ()),
                                   (is_simulation, 0, ("x",))):
            with self.assertRaises(BadLab):
                call(wrong, *("x",) * states, *more)
            for state in NEVER_RIGHT + (None, 3, -1):
                if states:
                    with self.assertRaises(BadState) as caught:
                        call(DOC_LAB, state, "y", *more)
                    self.assertIs(caught.exception.value, state)
                    with self.assertRaises(BadState) as caught:
                        call(DOC_LAB, 2, state, *more)
                    self.assertIs(caught.exception.value, state)


if __name__ == "__main__":
    unittest.main()
