"""[201], [208]: FREE ROWS by their numbers."""

import random
import unittest
from itertools import product

from tests.examples import DOC_LAB, GREAT_LAB, LEAST_LAB, NEVER_RIGHT, WRONG_ROWS, at, random_labs
from washedarms.errors import BadLab, BadLength, BadNumber, BadRow, BadState
from washedarms.freerows import free_row_at, free_row_count, free_row_place

FREE_LAB = (((0,) * 8,), (), 1, 1, 0)
# Each other touch may be any of two.
TURN_LAB = (((1, 1), (2, None), (1, 2)), (), 1, 1, 0)


def literal_rows(lab, state, length):
    """All FREE ROWS, ascending."""
    found = []
    for row in product(range(len(lab[0][0])), repeat=length):
        at = state
        for stuff in row:
            at = None if at is None else lab[0][at][stuff]
        if at is not None:
            found.append(row)
    return found


class FreeRowsTest(unittest.TestCase):
    def test_there_and_back(self):
        for lab in [LEAST_LAB, DOC_LAB, TURN_LAB] + random_labs(40, 25, stuffs=2) + random_labs(41, 10, stuffs=3):
            for state in range(len(lab[0])):
                for length in range(5):
                    rows = literal_rows(lab, state, length)
                    self.assertEqual(free_row_count(lab, state, length), len(rows))
                    for number, row in enumerate(rows):
                        self.assertEqual(free_row_at(lab, state, length, number), row)
                        self.assertEqual(free_row_place(lab, state, row), number)
                    for wrong in (-1, len(rows), len(rows) + 1):
                        with self.assertRaises(BadNumber):
                            free_row_at(lab, state, length, wrong)

    def test_the_example(self):
        self.assertEqual(free_row_count(DOC_LAB, 0, 3), 2)
        self.assertEqual(free_row_at(DOC_LAB, 0, 3, 1), (1, 1, 1))
        self.assertEqual(free_row_at(DOC_LAB, 0, 3, 0), (0, 0, 0))
        self.assertEqual((free_row_count(DOC_LAB, 0, 0), free_row_at(DOC_LAB, 0, 0, 0), free_row_place(DOC_LAB, 2, ())),
                         (1, (), 0))

    def test_none_at_all(self):
        lab = (((1,), (None,)), (), 1, 1, 0)
        self.assertEqual([free_row_count(lab, 0, length) for length in range(4)], [1, 1, 0, 0])
        self.assertEqual(free_row_count(lab, 1, 200), 0)
        with self.assertRaises(BadNumber):
            free_row_at(lab, 1, 200, 0)

    def test_great_lengths(self):
        rng = random.Random(42)
        for lab, state in ((FREE_LAB, 0), (TURN_LAB, 2), (GREAT_LAB, 0)):
            for length in (199, 200):
                many = free_row_count(lab, state, length)
                for number in [0, 1, many - 2, many - 1] + [rng.randrange(many) for _ in range(8)]:
                    row = free_row_at(lab, state, length, number)
                    self.assertEqual(len(row), length)
                    self.assertEqual(free_row_place(lab, state, row), number)
                for wrong in (-1, many, 10 ** 900, -10 ** 900):
                    with self.assertRaises(BadNumber) as caught:
                        free_row_at(lab, state, length, wrong)
                    self.assertIs(caught.exception.value, wrong)
        self.assertEqual(free_row_count(FREE_LAB, 0, 200), 8 ** 200)
        self.assertEqual(free_row_at(FREE_LAB, 0, 200, 8 ** 200 - 1), (7,) * 200)
        self.assertEqual(free_row_place(FREE_LAB, 0, (0,) * 199 + (5,)), 5)


class ErrorsTest(unittest.TestCase):
    def test_lab_and_state_first(self):
        for call, more in ((free_row_count, (-1,)), (free_row_at, (-1, -1)), (free_row_place, (0,))):
            with self.assertRaises(BadLab):
                call(LEAST_LAB[:4], "x", *more)
            for wrong in NEVER_RIGHT + (None, 3, -1):
                with self.assertRaises(BadState) as caught:
                    call(DOC_LAB, wrong, *more)
                self.assertIs(caught.exception.value, wrong)

    def test_lengths(self):
        for wrong in NEVER_RIGHT + (-1, 201, None, (), (1,)):
            for call, more in ((free_row_count, ()), (free_row_at, (-1,))):
                with self.assertRaises(BadLength) as caught:
                    call(DOC_LAB, 0, wrong, *more)
                self.assertIs(caught.exception.value, wrong)

    def test_numbers(self):
        for wrong in NEVER_RIGHT + (-1, 2, None, (), (1,)):
            with self.assertRaises(BadNumber) as caught:
                free_row_at(DOC_LAB, 0, 5, wrong)
            self.assertIs(caught.exception.value, wrong)

    def test_rows(self):
        for wrong in WRONG_ROWS + ((1,), (0, 1), (0,) * 201, (0,) * 300):
            with self.assertRaises(BadRow) as caught:
                free_row_place(DOC_LAB, 1, wrong)
            self.assertIs(caught.exception.value, wrong)
        self.assertEqual(free_row_place(DOC_LAB, 1, (0,) * 200), 0)


if __name__ == "__main__":
    unittest.main()
