"""[206]: chains, unfollowed uses and the fewest washes."""

import unittest
from functools import lru_cache
from itertools import combinations, product

from tests.examples import (
    DOC_LAB, GREAT_LAB, LEAST_LAB, NEVER_RIGHT, NO_TUPLES, WRONG_LOTS, changed, places, random_labs)
from washedarms.errors import BadLab, BadLot, BadNumber, NeverClean, NotPlain
from washedarms.labs import is_lab
from washedarms.plainlots import (fewest_washes, follows, is_chains, is_plain, is_unfollowed, lot_chains, unfollowed,
                                  width)


def plain_lab(rows, washes=()):
    """A LAB in which a touch of a stuff leads to a state of its own, with rows that tell what may follow."""
    meets = (tuple(range(1, len(rows) + 1)),) + tuple(
        tuple(stuff + 1 if may else None for stuff, may in enumerate(row)) for row in rows)
    return (meets, washes, 1, 1, 0)


# All rows of what may follow what, of up to three stuffs, that make a PLAIN LAB.
ROWS = [rows for many in (1, 2, 3) for rows in product(product((0, 1), repeat=many), repeat=many)]
PLAIN = [plain_lab(rows) for rows in ROWS if is_plain(plain_lab(rows))]


def uses(lot):
    """The USES of a LOT."""
    return [(stuff, number) for stuff, many in enumerate(lot) for number in range(many)]


def literal_width(may, lot):
    """The greatest number of UNFOLLOWED USES, by trying: of a stuff that may follow itself one alone."""
    found = uses(lot)
    for many in range(len(found), -1, -1):
        for row in combinations(found, many):
            if not any(may[a[0]][b[0]] for a in row for b in row if a != b):
                return many
    return None


class FollowsTest(unittest.TestCase):
    def test_follows(self):
        for lab in [LEAST_LAB, DOC_LAB, GREAT_LAB] + random_labs(36, 40):
            stuffs = range(len(lab[0][0]))
            told = tuple(tuple(lab[0][lab[0][0][a]][b] is not None for b in stuffs) for a in stuffs)
            self.assertEqual(follows(lab), told)
            self.assertTrue(all(one is True or one is False for row in follows(lab) for one in row))
        self.assertEqual(follows(DOC_LAB), ((True, False), (False, True)))

    def test_is_plain(self):
        found = {True: 0, False: 0}
        for lab in [LEAST_LAB, DOC_LAB, GREAT_LAB] + random_labs(37, 200, states=4, stuffs=3) + [
                plain_lab(rows) for rows in ROWS]:
            may, stuffs = follows(lab), range(len(lab[0][0]))
            same = all(len({row[stuff] for row in lab[0]} - {None}) == 1 for stuff in stuffs)
            right = same and not any(
                may[a][b] and may[b][c] and not may[a][c] for a, b, c in product(stuffs, repeat=3))
            self.assertIs(is_plain(lab), right)
            found[right] += 1
        self.assertGreater(min(found.values()), 100)
        self.assertIs(is_plain(DOC_LAB), True)
        self.assertIs(is_plain((((1,), (2,), (1,)), (), 1, 1, 0)), False)
        # A state that doesn't come counts, too.
        self.assertIs(is_plain((((0,), (1,)), (), 1, 1, 0)), False)


class ChainsTest(unittest.TestCase):
    def check(self, lab, lot):
        may = follows(lab)
        chains, row = lot_chains(lab, lot), unfollowed(lab, lot)
        self.assertIs(is_chains(lab, lot, chains), True)
        self.assertIs(is_unfollowed(lab, lot, row), True)
        # As many of both: none of them can be bettered.
        self.assertEqual(len(chains), len(row))
        self.assertEqual(width(lab, lot), len(row))
        self.assertEqual(sorted(use for chain in chains for use in chain), uses(lot))
        self.assertEqual(list(chains), sorted(set(chains)))
        self.assertTrue(all(may[one[0]][two[0]] for chain in chains for one, two in zip(chain, chain[1:])))
        self.assertEqual(list(row), sorted(set(row)))
        return len(row)

    def test_small_lots(self):
        found = set()
        for lab in PLAIN:
            for lot in product((0, 1, 2), repeat=len(lab[0][0])):
                if len(lot) < 3 or sum(lot) < 5:
                    told = self.check(lab, lot)
                    self.assertEqual(told, literal_width(follows(lab), lot))
                    found.add(told)
        self.assertEqual(found, {0, 1, 2, 3, 4})

    def test_great_lots(self):
        for lab in PLAIN:
            stuffs = len(lab[0][0])
            may = follows(lab)
            for lot in (((12,) + (12,) + (0,))[:stuffs], (8,) * stuffs, ((1,) + (11,) + (12,))[:stuffs]):
                told = self.check(lab, lot)
                # Of a stuff that may follow itself one use counts.
                small = tuple(min(1, many) if may[stuff][stuff] else many for stuff, many in enumerate(lot))
                best = max(sum(small[stuff] for stuff in row)
                           for many in range(stuffs + 1) for row in combinations(range(stuffs), many)
                           if not any(may[a][b] for a in row for b in row if a != b))
                self.assertEqual(told, best)

    def test_by_hand(self):
        self.assertEqual(lot_chains(DOC_LAB, (2, 1)), (((0, 0), (0, 1)), ((1, 0),)))
        self.assertEqual(width(DOC_LAB, (12, 12)), 2)
        self.assertEqual((lot_chains(DOC_LAB, (0, 0)), unfollowed(DOC_LAB, (0, 0)), width(DOC_LAB, (0, 0))), ((), (),
                0))
        self.assertEqual(width(plain_lab(((0,),)), (12,)), 12)
        self.assertEqual(width(plain_lab(((1,),)), (12,)), 1)
        # The stuff 1 may follow the stuff 0, each use one of them.
        lab = plain_lab(((0, 1), (0, 0)))
        self.assertEqual(width(lab, (5, 3)), 5)
        self.assertEqual(width(lab, (3, 5)), 5)
        # Both may follow each other, and so themselves.
        self.assertEqual(lot_chains(plain_lab(((1, 1), (1, 1))), (1, 2)), (((0, 0), (1, 0), (1, 1)),))

    def test_is_chains(self):
        lab = plain_lab(((0, 1, 1), (0, 0, 1), (0, 0, 0)))
        lot = (1, 1, 2)
        right = ((((0, 0), (1, 0), (2, 0)), ((2, 1),)), (((0, 0),), ((1, 0),), ((2, 0),), ((2, 1),)),
                 (((0, 0), (2, 1)), ((1, 0), (2, 0))), (((0, 0), (1, 0), (2, 1)), ((2, 0),)))
        wrong = (((2, 1),), ((0, 0), (1, 0), (2, 0))), (((0, 0), (1, 0), (2, 0)),), (
            ((0, 0), (1, 0), (2, 0)), ((2, 0),), ((2, 1),)), (((0, 0), (1, 0), (2, 0)), ((2, 2),)), (
            ((0, 0), (1, 0), (2, 0), (2, 1)),), (((1, 0), (0, 0), (2, 0)), ((2, 1),)), (
            (), ((0, 0), (1, 0), (2, 0)), ((2, 1),)), (((0, 0), (1, 0), (2, 0)), ((2, 1),), ((3, 0),)), (
            ((0, 0), (1, 0), (2, 0)), ((2, 1),), ((2, 1),)), (((0, 0), (1, 0), (2, 0)), [(2, 1)]), (), (
            ((0, 0), (1, 0), (2, 0), (2, 0)), ((2, 1),)), (((0, 0), (1, 0), (2, 0)), ((2, -1),)), (
            ((0, False), (1, 0), (2, 0)), ((2, 1),)), (((0, 0), (1, 0), (2, 0)), ((2, True),)), (
            ((0, 0), (1, 0), [2, 0]), ((2, 1),)), (((0, 0), (1, 0), (2, 0)), (2, 1)), (
            ((0, 0), (1, 0), (2, 0)), ((2, 1, 0),)), (((0, 0), (1, 0), (2, 0)), ((2,),))
        for paper in right:
            self.assertIs(is_chains(lab, lot, paper), True)
            for place in places(paper):
                for value in NEVER_RIGHT + (None,):
                    self.assertIs(is_chains(lab, lot, changed(paper, place, value)), False)
        for paper in wrong:
            self.assertIs(is_chains(lab, lot, paper), False, paper)
        for paper in NO_TUPLES + ([right[0]], list(right[0])):
            self.assertIs(is_chains(lab, lot, paper), False)
        self.assertIs(is_chains(lab, (0, 0, 0), ()), True)
        self.assertIs(is_chains(lab, (0, 0, 0), ((),)), False)

    def test_is_unfollowed(self):
        lab = plain_lab(((0, 1, 0), (0, 0, 0), (0, 0, 1)))
        lot = (2, 1, 2)
        right = ((), ((0, 0),), ((2, 1),), ((0, 0), (0, 1)), ((0, 0), (0, 1), (2, 0)), ((1, 0), (2, 1)))
        wrong = (((0, 1), (0, 0)), ((0, 0), (0, 0)), ((0, 0), (1, 0)), ((2, 0), (2, 1)), ((0, 2),), ((3, 0),), ((-1,
                0),),
                 ((0, -1),), ((0, 0, 0),), ((0,),), (0, 0), ((False, 0),), ((0, True),), ([0, 0],), ((None, 0),),
                 (None,),
                 ((0, 0), (0, 1), (1, 0)), [(0, 0)])
        for paper in right:
            self.assertIs(is_unfollowed(lab, lot, paper), True)
            for place in places(paper):
                for value in NEVER_RIGHT + (None,):
                    self.assertIs(is_unfollowed(lab, lot, changed(paper, place, value)), False)
        for paper in wrong + NO_TUPLES:
            self.assertIs(is_unfollowed(lab, lot, paper), False, paper)

    def test_any_lab(self):
        # No PLAIN one: the stuff 2 may follow 1, and 1 may follow 0, but 2 may not follow 0.
        lab = plain_lab(((0, 1, 0), (0, 0, 1), (0, 0, 0)))
        self.assertIs(is_plain(lab), False)
        self.assertIs(is_chains(lab, (1, 1, 1), (((0, 0), (1, 0), (2, 0)),)), True)
        self.assertIs(is_chains(lab, (1, 0, 1), (((0, 0), (2, 0)),)), False)
        self.assertIs(is_unfollowed(lab, (1, 1, 1), ((0, 0), (2, 0))), True)
        self.assertIs(is_unfollowed(lab, (1, 1, 1), ((0, 0), (1, 0))), False)


class FewestWashesTest(unittest.TestCase):
    CLEANS = (((0,),) * 4, 1, 1)

    def test_numbers(self):
        lab = plain_lab(((0, 0, 0), (0, 0, 1), (0, 0, 0)), (self.CLEANS,))
        for tools in range(1, 25):
            self.assertEqual(fewest_washes(lab, (3, 1, 2), tools), max(0, 5 - tools))
        self.assertEqual(fewest_washes(lab, (0, 0, 0), 1), 0)
        self.assertEqual(fewest_washes(lab, (12, 0, 12), 1), 23)

    def test_by_trying(self):
        """The fewest washes beside all ways in which tools, one after another, can touch a LOT."""
        for lab in PLAIN:
            lab = lab[:1] + ((((((0,),) * len(lab[0])), 1, 1),),) + lab[2:]
            self.assertTrue(is_lab(lab))
            for lot in product((0, 1, 2), repeat=len(lab[0][0])):
                if sum(lot) < 4:
                    for tools in (1, 2, 3):
                        self.assertEqual(fewest_washes(lab, lot, tools), self.fewest(lab, lot, tools))

    def fewest(self, lab, lot, tools):
        meets = lab[0]

        @lru_cache(maxsize=None)
        def least(states, left):
            if not any(left):
                return 0
            found = []
            for tool, state in enumerate(states):
                for stuff, many in enumerate(left):
                    less = left[:stuff] + (many - 1,) + left[stuff + 1:]
                    if many and meets[state][stuff] is not None:
                        found.append(least(states[:tool] + (meets[state][stuff],) + states[tool + 1:], less))
                    if many:
                        found.append(1 + least(states[:tool] + (meets[0][stuff],) + states[tool + 1:], less))
            return min(found)

        return least((0,) * tools, lot)

    def test_never_clean(self):
        rows = ((0, 0), (0, 0))
        for washes, sure in (((), False), ((((0,), (0,), (0, 1)), 1, 1), False), ((((0,), (0,), (1,)), 1, 1), False),
                             ((((1,), (0,), (0,)), 1, 1), False), ((((0,), (0,), (0,)), 1, 6), True)):
            lab = plain_lab(rows, (washes,) if washes else ())
            self.assertEqual(fewest_washes(lab, (1, 2), 3), 0)
            for tools in (1, 2):
                if sure:
                    self.assertEqual(fewest_washes(lab, (1, 2), tools), 3 - tools)
                else:
                    with self.assertRaises(NeverClean):
                        fewest_washes(lab, (1, 2), tools)
        after = ((0,), (0,), (0,))
        lab = plain_lab(rows, ((((1,), (1,), (1,)), 1, 1), (after, 1, 1)))
        self.assertEqual(fewest_washes(lab, (1, 2), 1), 2)
        # Two washes between them don't do.
        lab = plain_lab(rows, ((((0,), (0,), (1,)), 1, 1), (((0,), (1,), (0,)), 1, 1)))
        with self.assertRaises(NeverClean):
            fewest_washes(lab, (1, 2), 1)


class ErrorsTest(unittest.TestCase):
    NOT_PLAIN = (((1, 2), (2, None), (None, 2)), (), 1, 1, 0)

    def test_arguments_in_their_order(self):
        for call in (follows, is_plain):
            with self.assertRaises(BadLab):
                call(LEAST_LAB[:4])
        for call, more in ((lot_chains, ()), (unfollowed, ()), (width, ()), (is_chains, ("x",)), (is_unfollowed,
                ("x",)),
                           (fewest_washes, (0,))):
            with self.assertRaises(BadLab):
                call(LEAST_LAB[:4], "y", *more)
            for wrong in WRONG_LOTS:
                for lab in (DOC_LAB, self.NOT_PLAIN):
                    with self.assertRaises(BadLot) as caught:
                        call(lab, wrong, *more)
                    self.assertIs(caught.exception.value, wrong)
        for call, more in ((lot_chains, ()), (unfollowed, ()), (width, ()), (fewest_washes, (1,)), (fewest_washes,
                (24,))):
            with self.assertRaises(NotPlain):
                call(self.NOT_PLAIN, (1, 1), *more)

    def test_tools(self):
        for wrong in NEVER_RIGHT + (0, -1, 25, None, (1,)):
            for lab in (DOC_LAB, self.NOT_PLAIN):
                with self.assertRaises(BadNumber) as caught:
                    fewest_washes(lab, (1, 1), wrong)
                self.assertIs(caught.exception.value, wrong)


if __name__ == "__main__":
    unittest.main()
