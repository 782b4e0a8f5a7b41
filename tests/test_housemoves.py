"""[803]: the MOVE that a HOUSE makes."""

import unittest

from tests.examples import (
    CLEAN_SAMPLE, DIRTY_SAMPLE, EMPTY_SLOT, HOUSE_LAB, LONG_SAMPLE, LUCK_LAB, MANY_STANDINGS, MANY_TRIPLES, NO_TUPLES,
    SHORT_SAMPLE, STEP_LAB, LiteralHouse, changed, house_runs, literal_moves, literal_ticks, refused)
from washedarms.errors import BadHouse, TooGreat
from washedarms.forms import start
from washedarms.housemoves import house_latenesses, house_move
from washedarms.houses import house_faults, house_new

HOUSES = [house for _, rows, _ in house_runs() for house, _, _ in rows]


def house_of(lab, samples, dues):
    """The HOUSE with these samples in its first slots, at the START."""
    slots = tuple(samples) + (EMPTY_SLOT,) * (4 - len(samples))
    told = tuple((slot, slot) for slot in range(len(samples)))
    return (lab, slots, start((lab, slots)), tuple(dues) + (-1,) * (4 - len(dues)), told, len(samples))


class MoveTest(unittest.TestCase):
    def test_by_the_words(self):
        unlike = 0
        for house in HOUSES:
            task, standing, _ = LiteralHouse(house).claim()
            move = LiteralHouse(house).move()
            self.assertEqual(house_move(house), move)
            self.assertEqual(house_latenesses(house), tuple(late for late, _ in literal_ticks(task, standing, move)))
            # What it does hangs on what it promised, too.
            free = min(literal_moves(task, standing), key=lambda one: (
                -sum(word == "step" for _, word, _ in one), sum(word == "wash" for _, word, _ in one), one))
            unlike += move != free
        self.assertGreater(unlike, 20)

    def test_dues_of_one_run(self):
        """With every lesser DUE with which the claim can be kept, and with the greatest one with which it cannot."""
        for house in HOUSES[::11]:
            for slot, due in enumerate(house[3]):
                for less in range(1, due):
                    other = changed(house, (3, slot), less)
                    move = LiteralHouse(other).move()
                    if move is None:
                        self.assertEqual(house_faults(other), (3,))
                        refused(self, BadHouse, {"number": 3}, house_move, other)
                        refused(self, BadHouse, {"number": 3}, house_latenesses, other)
                    else:
                        self.assertEqual(house_move(other), move)

    def test_by_hand(self):
        self.assertEqual(house_move(house_new(HOUSE_LAB)), ())
        self.assertEqual(house_latenesses(house_new(HOUSE_LAB)), ((),))
        # Most STARTS of steps, fewest of washes, the first of these.
        free = (LONG_SAMPLE[0], (None, None)), (SHORT_SAMPLE[0], (None,))
        self.assertEqual(house_move(house_of(HOUSE_LAB, free, ())), ((0, "step", 0), (1, "step", 1)))
        self.assertEqual(house_latenesses(house_of(HOUSE_LAB, free, ())), (((0, 1), (1, 0)), ((1, 0),)))
        self.assertEqual(house_move(house_of(HOUSE_LAB, free[:1], ())), ((0, "step", 0),))
        self.assertEqual(house_move(house_of(HOUSE_LAB, free[::-1], ())), ((0, "step", 1), (1, "step", 0)))
        # The tool 0 does its second step and would have to be washed: so it is begun on the tool 1.
        self.assertEqual(house_move(house_of(HOUSE_LAB, (LONG_SAMPLE,), (3,))), ((1, "step", 0),))
        self.assertEqual(house_move(house_of(HOUSE_LAB, (LONG_SAMPLE,), (5,))), ((0, "step", 0),))
        refused(self, BadHouse, {"number": 3}, house_move, house_of(HOUSE_LAB, (LONG_SAMPLE,), (2,)))
        # A free sample is done first only where that breaks no promise.
        clean = house_of(STEP_LAB, (DIRTY_SAMPLE, DIRTY_SAMPLE, CLEAN_SAMPLE), (-1, 1))
        self.assertEqual(house_move(clean), ((0, "step", 1),))
        self.assertEqual(house_move(changed(clean, (3, 1), 3)), ((0, "step", 1),))
        self.assertEqual(house_move(changed(clean, (3, 1), 4)), ((0, "step", 0),))

    def test_one_arm_and_washes(self):
        dirty = changed(house_of(HOUSE_LAB, (SHORT_SAMPLE,), (4,)), (2, 1, 1, 0), 1)
        self.assertEqual(house_move(dirty), ())
        self.assertEqual(house_move(changed(dirty, (3, 0), 3)), ((1, "wash", 0),))
        self.assertEqual(house_move(changed(dirty, (3, 0), -1)), ())
        refused(self, BadHouse, {"number": 3}, house_move, changed(dirty, (3, 0), 2))
        luck = changed(house_of(LUCK_LAB, (DIRTY_SAMPLE,), (60,)), (2, 1, 0, 0), 1)
        refused(self, BadHouse, {"number": 3}, house_move, luck)
        self.assertEqual(house_move(changed(luck, (3, 0), -1)), ())


class ErrorsTest(unittest.TestCase):
    def test_wrong_houses(self):
        right = house_of(HOUSE_LAB, (LONG_SAMPLE,), (3,))
        for call in (house_move, house_latenesses):
            for wrong in NO_TUPLES + (right[:5],):
                refused(self, BadHouse, {"number": 1}, call, wrong)
            refused(self, BadHouse, {"number": 2}, call, changed(right, (4,), ()))
            # 1 and 2 are looked at ahead of 3.
            refused(self, BadHouse, {"number": 2}, call, changed(changed(right, (4,), ()), (3, 0), 1))
            refused(self, BadHouse, {"number": 1}, call, changed(changed(right, (4,), ()), (5,), -1))

    def test_great_searches(self):
        for task, most in ((MANY_STANDINGS[1], 20000), (MANY_TRIPLES[1], 200000)):
            house = house_of(task[0], task[1], (60,))
            for call in (house_move, house_latenesses):
                refused(self, TooGreat, {"most": most}, call, house)
            self.assertEqual(house_move(changed(house, (3, 0), -1)), ((0, "step", 0),))


if __name__ == "__main__":
    unittest.main()
