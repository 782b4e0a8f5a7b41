"""[35]: needless washes and needless results."""

import unittest

from tests.examples import (
    DOC_LAB, GREAT_LAB, LEAST_LAB, NEVER_RIGHT, changed, literal_soonest, random_labs, random_tasks)
from washedarms.errors import BadLab, BadNumber
from washedarms.goodness import is_as_good
from washedarms.labs import is_lab
from washedarms.needless import lab_with_worst, lab_without, needless_washes

LABS = [LEAST_LAB, DOC_LAB, GREAT_LAB] + random_labs(13, 80, washes=3) + random_labs(14, 40, washes=2, stuffs=1)
# The clean state is as good as both others, which are as good as each other.
MEETS = ((1, 2), (1, None), (1, None))
CLEAN = (((0,), (0,), (0,)), 1, 2)
SLOW = (((0,), (0,), (0,)), 1, 3)


def literal_stands(lab, v, w):
    """Whether wash V stands for wash W, by the words of [35]."""
    one, other = lab[1][v], lab[1][w]
    return v != w and other[1] <= one[1] and one[2] <= other[2] and all(
        any(is_as_good(lab, x, y) for y in other[0][state]) for state in range(len(lab[0])) for x in one[0][state])


def literal_needless(lab):
    """The needless washes, by the words of [35]."""
    washes = range(len(lab[1]))
    return tuple(w for w in washes if any(
        literal_stands(lab, v, w) and (not literal_stands(lab, w, v) or v < w) for v in washes))


def literal_worst(lab, results):
    """The results of an entry that aren't needless, by the words of [35]."""
    return tuple(a for a in results if not any(
        b != a and is_as_good(lab, a, b) and (not is_as_good(lab, b, a) or b < a) for b in results))


class NeedlessTest(unittest.TestCase):
    def check(self, washes, told):
        self.assertEqual(needless_washes((MEETS, washes, 1, 1, 0)), told)

    def test_by_the_words(self):
        found = set()
        for lab in LABS:
            self.assertEqual(needless_washes(lab), literal_needless(lab))
            found.add(needless_washes(lab))
        self.assertGreater(len(found), 4)

    def test_ties_by_number(self):
        self.check((CLEAN, CLEAN), (1,))
        self.check((CLEAN, CLEAN, CLEAN), (1, 2))
        self.check((CLEAN, SLOW), (1,))
        self.check((SLOW, CLEAN), (0,))
        self.check((), ())
        self.check((CLEAN,), ())

    def test_spans(self):
        after = CLEAN[0]
        self.check(((after, 1, 2), (after, 2, 3)), ())
        self.check(((after, 2, 2), (after, 1, 3)), (1,))
        self.check(((after, 2, 3), (after, 1, 3)), (1,))
        self.check(((after, 1, 3), (after, 1, 2)), (0,))
        self.check(((after, 1, 3), (after, 2, 2)), (0,))

    def test_results_of_washes(self):
        self.check((CLEAN, (((1,), (1,), (1,)), 1, 2)), (1,))
        self.check(((((1,), (1,), (1,)), 1, 2), CLEAN), (0,))
        # The states 1 and 2 are as good as each other, so the lesser number stays.
        self.check(((((1,), (1,), (1,)), 1, 2), (((2,), (2,), (2,)), 1, 2)), (1,))
        self.check(((((0, 1),) * 3, 1, 2), (((1,),) * 3, 1, 2)), (1,))
        self.check(((((1,),) * 3, 1, 2), (((0, 1),) * 3, 1, 2)), (1,))
        self.check(((((0, 1),) * 3, 1, 2), (((0,),) * 3, 1, 2)), (0,))
        self.check(((((0,),) * 3, 1, 2), (((0, 1),) * 3, 1, 2)), (1,))

    def test_lab_without(self):
        lab = (MEETS, (CLEAN, SLOW, (CLEAN[0], 3, 4)), 2, 3, 4)
        for washes, kept in (((), (0, 1, 2)), ((0,), (1, 2)), ((1,), (0, 2)), ((0, 2), (1,)), ((0, 1, 2), ())):
            self.assertEqual(lab_without(lab, washes), (MEETS, tuple(lab[1][wash] for wash in kept), 2, 3, 4))
        for wrong in NEVER_RIGHT + ((3,), (-1,), (0, 0), (1, 0), (0, 3), (True,), (None,), (0, "1"), None, 0, ((0,),)):
            with self.assertRaises(BadNumber) as caught:
                lab_without(lab, wrong)
            self.assertIs(caught.exception.value, wrong)

    def test_numbers_of_no_washes(self):
        for lab in (LEAST_LAB, DOC_LAB, GREAT_LAB):
            many = len(lab[1])
            self.assertEqual(lab_without(lab, tuple(range(many))), (lab[0], ()) + lab[2:])
            with self.assertRaises(BadNumber):
                lab_without(lab, (many,))

    def test_lab_with_worst(self):
        changed = 0
        for lab in LABS:
            new = lab_with_worst(lab)
            self.assertTrue(is_lab(new))
            self.assertEqual((new[0],) + new[2:], (lab[0],) + lab[2:])
            for one, other in zip(new[1], lab[1]):
                self.assertEqual(one, (tuple(literal_worst(lab, row) for row in other[0]),) + other[1:])
            changed += new != lab
        self.assertGreater(changed, 20)

    def test_worst_by_hand(self):
        lab = (MEETS, ((((0, 1, 2), (0, 1), (1, 2)), 1, 2),), 1, 1, 0)
        self.assertEqual(lab_with_worst(lab)[1], ((((1,), (1,), (1,)), 1, 2),))
        self.assertEqual(lab_with_worst(LEAST_LAB), LEAST_LAB)

    def test_soonest_stays(self):
        for task in random_tasks(15, 30, samples=1, states=3, stuffs=2, tools=1, arms=1, washes=3):
            lab = task[0]
            soonest = literal_soonest(task)
            for other in (lab_without(lab, needless_washes(lab)), lab_with_worst(lab)):
                self.assertEqual(literal_soonest((other, task[1])), soonest)

    def test_wrong_labs(self):
        for call in (needless_washes, lab_with_worst):
            with self.assertRaises(BadLab):
                call(LEAST_LAB[:4])
        with self.assertRaises(BadLab):
            lab_without(LEAST_LAB[:4], "x")


if __name__ == "__main__":
    unittest.main()
