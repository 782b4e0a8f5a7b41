"""[201]: FREE ROWS."""

import unittest
from itertools import product

from tests.examples import DOC_LAB, GREAT_LAB, LEAST_LAB, NEVER_RIGHT, WRONG_ROWS, random_labs
from washedarms.errors import BadLab, BadRow, BadState
from washedarms.touches import row_end, row_stop


class TouchesTest(unittest.TestCase):
    def test_by_the_words(self):
        for lab in [LEAST_LAB, DOC_LAB] + random_labs(27, 30):
            for state in range(len(lab[0])):
                for many in range(4):
                    for row in product(range(len(lab[0][0])), repeat=many):
                        end, stop = state, None
                        for place, stuff in enumerate(row):
                            if stop is None:
                                end = lab[0][end][stuff]
                                stop = place if end is None else None
                        self.assertEqual(row_end(lab, state, row), end)
                        self.assertEqual(row_stop(lab, state, row), stop)

    def test_by_hand(self):
        self.assertEqual((row_end(DOC_LAB, 2, ()), row_stop(DOC_LAB, 2, ())), (2, None))
        self.assertEqual((row_end(DOC_LAB, 0, (1, 1, 1)), row_stop(DOC_LAB, 0, (1, 1, 1))), (2, None))
        self.assertEqual((row_end(DOC_LAB, 0, (0, 0, 1, 0)), row_stop(DOC_LAB, 0, (0, 0, 1, 0))), (None, 2))
        self.assertEqual((row_end(DOC_LAB, 1, (1,)), row_stop(DOC_LAB, 1, (1,))), (None, 0))
        # The end may be the state 0, which is not None.
        self.assertEqual((row_end(LEAST_LAB, 0, (0,) * 3000), row_stop(LEAST_LAB, 0, (0,) * 3000)), (0, None))
        self.assertEqual(row_end(GREAT_LAB, 0, (7,) * 9), 0)

    def test_wrong_arguments(self):
        for call in (row_end, row_stop):
            with self.assertRaises(BadLab):
                call(LEAST_LAB[:4], "x", "y")
            for wrong in NEVER_RIGHT + (None, -1, 3):
                with self.assertRaises(BadState) as caught:
                    call(DOC_LAB, wrong, "y")
                self.assertIs(caught.exception.value, wrong)
            for wrong in WRONG_ROWS:
                with self.assertRaises(BadRow) as caught:
                    call(DOC_LAB, 1, wrong)
                self.assertIs(caught.exception.value, wrong)
            # Behind the place at which the row stops nothing wrong may stand either.
            with self.assertRaises(BadRow):
                call(DOC_LAB, 1, (1, 2))


if __name__ == "__main__":
    unittest.main()
