"""[10], [12], [30]: what a LAB is."""

import unittest

from tests.examples import (
    DOC_LAB, GREAT_LAB, LEAST_LAB, NEVER_RIGHT, NO_TUPLES, RUN_LAB, at, changed, places, random_labs)
from washedarms.errors import BadLab, BadState
from washedarms.labs import is_lab, lab_fault, need_lab, need_state

WORDS = ("meets", "washes", "tools", "arms", "zones")
LABS = [LEAST_LAB, GREAT_LAB, DOC_LAB, RUN_LAB] + random_labs(1, 30)


class LabsTest(unittest.TestCase):
    def check(self, value, fault):
        self.assertEqual(lab_fault(value), fault, value)
        self.assertIs(is_lab(value), fault is None)
        if fault is None:
            self.assertIs(need_lab(value), value)
        else:
            self.assertIs(type(lab_fault(value)[1]), tuple)
            with self.assertRaises(BadLab) as caught:
                need_lab(value)
            self.assertEqual((caught.exception.word, caught.exception.place), fault)

    def test_right_ones(self):
        for lab in LABS:
            self.check(lab, None)

    def test_no_tuple_of_five(self):
        for value in NO_TUPLES + (LEAST_LAB[:4], LEAST_LAB + (0,), (), list(LEAST_LAB), LEAST_LAB[0]):
            self.check(value, ("lab", ()))

    def test_one_wrong_thing_anywhere(self):
        for lab in (GREAT_LAB, DOC_LAB, LEAST_LAB):
            for place in places(lab)[1:]:
                for wrong in NEVER_RIGHT:
                    self.check(changed(lab, place, wrong), (WORDS[place[0]], place))

    def test_lists_and_other_lengths_in_the_place_of_tuples(self):
        for lab in (GREAT_LAB, DOC_LAB):
            for place in places(lab)[1:]:
                value = at(lab, place)
                if type(value) is tuple:
                    self.check(changed(lab, place, list(value)), (WORDS[place[0]], place))
                    self.check(changed(lab, place, ()), None if place == (1,) else (WORDS[place[0]], place))
                    self.check(changed(lab, place, value * 9), (WORDS[place[0]], place))

    def test_none_in_the_place_of_integers(self):
        for lab in (GREAT_LAB, DOC_LAB):
            for place in places(lab)[1:]:
                right = place[0] == 0 and len(place) == 3 and place[1] > 0
                self.check(changed(lab, place, None), None if right else (WORDS[place[0]], place))

    def test_the_first_of_two_wrong_things_is_told(self):
        found = places(DOC_LAB)[1:]
        for one in found:
            for other in found:
                if one != other[:len(one)] and other != one[:len(other)]:
                    first = min(one, other)
                    value = changed(changed(DOC_LAB, one, "x"), other, True)
                    self.check(value, (WORDS[first[0]], first))

    def test_a_thing_ahead_of_its_parts(self):
        self.check((((0, 9), ("x",)), 3, 1, 1, 1), ("meets", (0, 0, 1)))
        self.check((((0, 0), ("x",)), 3, 1, 1, 1), ("meets", (0, 1)))
        self.check((((0,),), (((9,), 7, 0), 4), 1, 1, 1), ("washes", (1, 0, 0, 0)))
        self.check((((0,),), ((((0,), (0,)), 7, 0), 4), 1, 1, 1), ("washes", (1, 0, 0)))
        self.check((((0,),), ((((0,),), 7, 0), 4), 1, 1, 1), ("washes", (1, 0, 1)))
        self.check((((0,),), ((((0,),), 1, 0), 4), 1, 1, 1), ("washes", (1, 0, 2)))

    def test_meets_edges(self):
        for states in range(0, 11):
            for stuffs in range(0, 11):
                fault = None
                if not 1 <= states <= 8:
                    fault = ("meets", (0,))
                elif not 1 <= stuffs <= 8:
                    fault = ("meets", (0, 0))
                self.check((((0,) * stuffs,) * states, (), 1, 1, 0), fault)
        for state in (0, 1, 2):
            for behind in range(-2, 6):
                meets = changed(((0, 1), (2, 0), (1, 1)), (state, 1), behind)
                fault = None if 0 <= behind <= 2 else ("meets", (0, state, 1))
                self.check((meets, (), 1, 1, 0), fault)

    def test_unlike_rows(self):
        for many in range(0, 9):
            fault = None if many == 2 else ("meets", (0, 1))
            self.check((((0, 0), (0,) * many), (), 1, 1, 0), fault)

    def test_washes_edges(self):
        wash = (((0,), (0, 1)), 1, 1)
        for many in range(0, 6):
            fault = None if many <= 3 else ("washes", (1,))
            self.check((((0,), (1,)), (wash,) * many, 1, 1, 0), fault)
        for wrong in ((), wash[:2], wash + (1,), list(wash), None, 0):
            self.check((((0,), (1,)), (wash, wrong), 1, 1, 0), ("washes", (1, 1)))
        for many in range(0, 6):
            fault = None if many == 2 else ("washes", (1, 0, 0))
            self.check((((0,), (1,)), ((((0,),) * many, 1, 1),), 1, 1, 0), fault)

    def test_results(self):
        meets = ((0,),) * 5
        for results, place in (
                ((), ()), ((0,), None), ((4,), None), ((0, 1, 2), None), ((2, 3, 4), None), ((0, 1, 2, 3), ()),
                ((5,), (0,)), ((-1,), (0,)), ((0, 0), (1,)), ((1, 0), (1,)), ((0, 2, 1), (2,)), ((0, 2, 2), (2,)),
                ((3, 4, 5), (2,)), ((0, 5, 1), (1,)), ((None,), (0,)), ((0, None), (1,)), ((False,), (0,)),
                ((0, True), (1,))):
            after = ((0,), (0,), results, (0,), (0,))
            fault = None if place is None else ("washes", (1, 0, 0, 2) + place)
            self.check((meets, ((after, 1, 1),), 1, 1, 0), fault)

    def test_low_and_high(self):
        for low in range(-1, 9):
            for high in range(-1, 9):
                fault = None
                if not 1 <= low <= 6:
                    fault = ("washes", (1, 1, 1))
                elif not low <= high <= 6:
                    fault = ("washes", (1, 1, 2))
                wash = (((0,),), 1, 1)
                self.check((((0,),), (wash, (((0,),), low, high)), 1, 1, 0), fault)

    def test_the_example(self):
        after = ((0,),)
        self.check((((0,),), ((after, 3, 4), (after, 4, 3)), 1, 1, 0), ("washes", (1, 1, 2)))

    def test_counts(self):
        for number in range(-2, 7):
            self.check(LEAST_LAB[:2] + (number, 1, 0), None if 1 <= number <= 3 else ("tools", (2,)))
            self.check(LEAST_LAB[:3] + (number, 0), None if 1 <= number <= 3 else ("arms", (3,)))
            self.check(LEAST_LAB[:4] + (number,), None if 0 <= number <= 4 else ("zones", (4,)))


class StatesTest(unittest.TestCase):
    def test_states(self):
        for lab in (LEAST_LAB, GREAT_LAB, DOC_LAB):
            for state in range(len(lab[0])):
                self.assertEqual(need_state(lab, state), state)
            for wrong in NEVER_RIGHT + (-1, len(lab[0]), None, (0,), ()):
                with self.assertRaises(BadState) as caught:
                    need_state(lab, wrong)
                self.assertIs(caught.exception.value, wrong)


if __name__ == "__main__":
    unittest.main()
