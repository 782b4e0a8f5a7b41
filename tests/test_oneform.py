"""[36]: like states, round by round, and the ONE FORM."""

import unittest
from itertools import permutations

from tests.examples import DOC_LAB, GREAT_LAB, LEAST_LAB, literal_soonest, random_labs, random_tasks
from washedarms.errors import BadLab, BadPair
from washedarms.goodness import is_as_good
from washedarms.labs import is_lab
from washedarms.oneform import first_unlike_round, like_classes, like_rounds, one_form

LABS = [LEAST_LAB, DOC_LAB, GREAT_LAB] + random_labs(16, 60) + random_labs(17, 60, states=4, stuffs=1, washes=1)
# Each state is unlike the next one by what comes so many touches later.
CHAIN = tuple([((1, 0),)] + [((state + 1, 0),) for state in range(1, 7)] + [((7, None),)])
CHAIN_LAB = (tuple(row[0] for row in CHAIN), (), 1, 1, 0)


def literal_rounds(meets, afters, states):
    """The numbers of all rounds, to the first one behind which there are not more."""
    rounds = [{state: 0 for state in states}]
    while True:
        last = rounds[-1]
        signs = {state: (
            last[state],
            tuple(-1 if behind is None else last[behind] for behind in meets[state]),
            tuple(tuple(sorted({last[x] for x in after[state]})) for after in afters)) for state in states}
        order = sorted(set(signs.values()))
        if len(order) == len(set(last.values())):
            return rounds
        rounds.append({state: order.index(signs[state]) for state in states})


def coming(lab):
    """The states that come."""
    found = {0}
    while True:
        more = {b for state in found for b in lab[0][state] if b is not None} | {
            b for after, _, _ in lab[1] for state in found for b in after[state]}
        if more <= found:
            return sorted(found)
        found |= more


def side_by_side(lab, other):
    """MEETS and AFTERS of two laboratories, the states of the other one behind."""
    many = len(lab[0])
    meets = lab[0] + tuple(tuple(None if b is None else b + many for b in row) for row in other[0])
    afters = [one[0] + tuple(tuple(x + many for x in row) for row in two[0]) for one, two in zip(lab[1], other[1])]
    return meets, afters


def doubled(lab):
    """The laboratory with a double of each state, to which the old ones lead, and one state that doesn't come."""
    many = len(lab[0])
    meets = tuple(tuple(None if b is None else b + many for b in row) for row in lab[0]) + lab[0]
    washes = tuple((tuple(tuple(x + many for x in row) for row in after) + after, low, high)
                   for after, low, high in lab[1])
    return (meets, washes) + lab[2:]


class LikeTest(unittest.TestCase):
    def test_rounds_by_the_words(self):
        for lab in LABS + [CHAIN_LAB]:
            rounds = literal_rounds(lab[0], [wash[0] for wash in lab[1]], range(len(lab[0])))
            self.assertEqual(like_classes(lab), tuple(rounds[-1][state] for state in range(len(lab[0]))))
            self.assertEqual(like_rounds(lab), len(rounds) - 1)

    def test_by_hand(self):
        self.assertEqual((like_classes(LEAST_LAB), like_rounds(LEAST_LAB)), ((0,), 0))
        self.assertEqual((like_classes(DOC_LAB), like_rounds(DOC_LAB)), ((2, 1, 0), 1))
        self.assertEqual((like_classes(CHAIN_LAB), like_rounds(CHAIN_LAB)), ((7, 6, 5, 4, 3, 2, 1, 0), 7))
        lab = (((0, 0), (0, 0), (0, None)), ((((0, 1), (1,), (0,)), 1, 1),), 1, 1, 0)
        self.assertEqual((like_classes(lab), like_rounds(lab)), ((1, 1, 0), 1))

    def test_like_ones_are_as_good_as_one_another(self):
        for lab in LABS:
            numbers = like_classes(lab)
            for one, two in permutations(range(len(lab[0])), 2):
                if numbers[one] == numbers[two]:
                    self.assertTrue(is_as_good(lab, one, two))


class OneFormTest(unittest.TestCase):
    def test_by_the_words(self):
        for lab in LABS + [CHAIN_LAB, doubled(DOC_LAB), doubled(random_labs(18, 1)[0])]:
            form, numbers = one_form(lab)
            self.assertTrue(is_lab(form))
            states = coming(lab)
            last = literal_rounds(lab[0], [wash[0] for wash in lab[1]], states)[-1]
            order = [last[0]] + sorted(set(last.values()) - {last[0]})
            self.assertEqual(numbers, tuple(
                order.index(last[state]) if state in states else None for state in range(len(lab[0]))))
            self.assertEqual(len(form[0]), len(order))
            for state in states:
                row = tuple(None if b is None else numbers[b] for b in lab[0][state])
                self.assertEqual(form[0][numbers[state]], row)
                for one, other in zip(form[1], lab[1]):
                    self.assertEqual(one[0][numbers[state]], tuple(sorted({numbers[x] for x in other[0][state]})))
            self.assertEqual([wash[1:] for wash in form[1]], [wash[1:] for wash in lab[1]])
            self.assertEqual(form[2:], lab[2:])

    def test_by_hand(self):
        self.assertEqual(one_form(LEAST_LAB), (LEAST_LAB, (0,)))
        # The clean state has the greatest number in the last round: it becomes 0, the others ascend behind it.
        form = (((2, 1), (None, 1), (2, None)), ((((0,), (0,), (0, 2)), 1, 3),), 2, 2, 2)
        self.assertEqual(one_form(DOC_LAB), (form, (0, 2, 1)))
        # The state 1 doesn't come; the states 2 and 3 are doubles.
        lab = (((2, 3), (1, 1), (2, None), (3, None)), ((((0,), (1,), (2, 3), (2,)), 2, 5),), 3, 1, 4)
        form = (((1, 1), (1, None)), ((((0,), (1,)), 2, 5),), 3, 1, 4)
        self.assertEqual(one_form(lab), (form, (0, None, 1, 1)))

    def test_states_that_do_not_come_do_not_count(self):
        # Only by the state 2, which doesn't come, the classes would be numbered otherwise.
        lab = (((1,), (1,), (None,)), (), 1, 1, 0)
        self.assertEqual(one_form(lab), ((((0,),), (), 1, 1, 0), (0, 0, None)))

    def test_forms_of_forms(self):
        for lab in LABS:
            form = one_form(lab)[0]
            self.assertEqual(one_form(form), (form, tuple(range(len(form[0])))))
            if len(lab[0]) <= 4:
                self.assertEqual(one_form(doubled(lab))[0], form)

    def test_soonest_stays(self):
        for task in random_tasks(19, 25, samples=1, states=4, stuffs=1, washes=1, tools=2, arms=2):
            self.assertEqual(literal_soonest((one_form(task[0])[0], task[1])), literal_soonest(task))


class FirstUnlikeRoundTest(unittest.TestCase):
    def test_by_the_words(self):
        found = set()
        pairs = [(one, other) for kind in ((1, 1), (2, 1), (1, 0), (2, 2))
                 for one in random_labs(20, 15, stuffs=kind[0], washes=kind[1])
                 for other in random_labs(21, 15, stuffs=kind[0], washes=kind[1])]
        for one, other in pairs:
            meets, afters = side_by_side(one, other)
            told = None
            for number, numbers in enumerate(literal_rounds(meets, afters, range(len(meets)))):
                if told is None and numbers[0] != numbers[len(one[0])]:
                    told = number
            self.assertEqual(first_unlike_round(one, other), told)
            found.add(told)
            # The fact about ONE FORMS.
            forms = [one_form(lab)[0] for lab in (one, other)]
            alike = [(form[0], [wash[0] for wash in form[1]]) for form in forms]
            self.assertEqual(told is None, alike[0] == alike[1])
        self.assertLessEqual({None, 2, 3, 4}, found)

    def test_by_hand(self):
        self.assertIsNone(first_unlike_round(GREAT_LAB, GREAT_LAB))
        self.assertEqual(first_unlike_round(CHAIN_LAB, (((0, 0),), (), 3, 3, 4)), 8)
        self.assertEqual(first_unlike_round((((0, 0),), (), 3, 3, 4), CHAIN_LAB), 8)
        self.assertIsNone(first_unlike_round(LEAST_LAB, (((1,), (0,)), (), 3, 2, 1)))

    def test_no_pair(self):
        for one, other in ((LEAST_LAB, CHAIN_LAB), (LEAST_LAB, (((0,),), ((((0,),), 1, 1),), 1, 1, 0))):
            for row in ((one, other), (other, one)):
                with self.assertRaises(BadPair):
                    first_unlike_round(*row)

    def test_wrong_labs(self):
        wrong = LEAST_LAB[:4]
        for call in (like_classes, like_rounds, one_form):
            with self.assertRaises(BadLab):
                call(wrong)
        with self.assertRaises(BadLab) as caught:
            first_unlike_round(wrong, (3, (), 1, 1, 0))
        self.assertEqual(caught.exception.word, "lab")
        with self.assertRaises(BadLab) as caught:
            first_unlike_round(CHAIN_LAB, (3, (), 1, 1, 0))
        self.assertEqual(caught.exception.word, "meets")


if __name__ == "__main__":
    unittest.main()
