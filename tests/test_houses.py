"""[801], [802]: what a HOUSE is, and what always holds of it."""

import random
import unittest

from tests.examples import (
    CLEAN_SAMPLE, DIRTY_SAMPLE, DOC_LAB, EMPTY_SLOT, GREAT_LAB, HOUSE_LAB, LEAST_LAB, LONG_SAMPLE, MANY_STANDINGS,
    NEVER_RIGHT, NO_TUPLES, SHORT_SAMPLE, STEP_LAB, LiteralHouse, changed, house_runs, is_plain, literal_broken,
    literal_can_be_kept, literal_freed, near_values, refused)
from washedarms.errors import BadHouse, BadLab, TooGreat
from washedarms.forms import is_standing, start
from washedarms.houses import house_faults, house_new, house_task, need_house
from washedarms.tasks import is_task

NEW = house_new(HOUSE_LAB)
HOUSES = [house for _, rows, _ in house_runs() for house, _, _ in rows]
# Two samples in the slots 0 and 2, the second one free; NUMBERS 3 and 7; a step of the first one runs.
FULL = (HOUSE_LAB, (LONG_SAMPLE, EMPTY_SLOT, SHORT_SAMPLE, EMPTY_SLOT),
        (((0, 0), (0, 0), (0, 0), (0, 0)), ((0, ("step", 0, 1)), (1, ()))), (5, -1, -1, -1), ((3, 0), (7, 2)), 8)


def literal_fault(value):
    """The number of the first statement that a value breaks, None if there is none."""
    if type(value) is not tuple or len(value) != 6:
        return 1
    lab, slots, standing, dues, told, count = value
    if type(slots) is not tuple or len(slots) != 4 or not is_task((lab, slots)):
        return 1
    if not is_standing((lab, slots), standing) or type(dues) is not tuple or len(dues) != 4:
        return 1
    rests = standing[0]
    over = [rest[0] == len(sample[0]) for rest, sample in zip(rests, slots)]
    if not all(type(due) is int and (due == -1 or (1 <= due <= 60 and not done)) for due, done in zip(dues, over)):
        return 1
    if type(count) is not int or not 0 <= count <= 2 ** 60 or type(told) is not tuple or not is_plain(told):
        return 1
    if not all(type(pair) is tuple and len(pair) == 2 and type(pair[0]) is int and type(pair[1]) is int
               and 0 <= pair[0] < count and 0 <= pair[1] <= 3 for pair in told):
        return 1
    numbers, places = [number for number, _ in told], [slot for _, slot in told]
    if list(told) != sorted(set(told)) or len(set(numbers)) < len(numbers):
        return 2
    if any(places.count(slot) != (0 if sample == EMPTY_SLOT else 1) for slot, sample in enumerate(slots)):
        return 2
    if any(over[slot] for slot in places) or literal_broken((lab, slots), standing):
        return 2
    if any(due == -1 and set(windows) - {None} for due, (_, windows) in zip(dues, slots)):
        return 2
    return None if literal_can_be_kept((lab, slots), standing, dues) else 3


class NewTest(unittest.TestCase):
    def test_new(self):
        for lab in (LEAST_LAB, GREAT_LAB, DOC_LAB, HOUSE_LAB):
            house = (lab, (((), ()),) * 4, (((0, 0),) * 4, ((0, ()),) * lab[2]), (-1,) * 4, (), 0)
            self.assertEqual(house_new(lab), house)
            self.assertEqual(house_faults(house), ())
            self.assertEqual(house_task(house), ((lab, house[1]), house[2], house[3]))
            self.assertEqual(house[2], start((lab, house[1])))

    def test_wrong_labs(self):
        refused(self, BadLab, {"word": "arms", "place": (3,)}, house_new, changed(LEAST_LAB, (3,), 0))
        for wrong in NO_TUPLES:
            refused(self, BadLab, {"word": "lab", "place": ()}, house_new, wrong)


class FaultsTest(unittest.TestCase):
    def check(self, value, number):
        self.assertEqual(house_faults(value), () if number is None else (number,))
        for call in (need_house, house_task):
            if number in (1, 2):
                refused(self, BadHouse, {"number": number}, call, value)
        if number not in (1, 2):
            self.assertIs(need_house(value), value)
            self.assertEqual(house_task(value), ((value[0], value[1]), value[2], value[3]))

    def test_houses_that_come(self):
        for house in HOUSES:
            self.check(house, None)
            self.assertEqual(house_task(house), LiteralHouse(house).claim())
            # In a HOUSE nothing is left to be freed.
            task, standing, dues = house_task(house)
            self.assertEqual(literal_freed(task, standing, dues), (task, standing))

    def test_near_values(self):
        rng = random.Random(810)
        found = {}
        for house in HOUSES[::12] + [FULL] * 20:
            for value in near_values(house, rng, 8):
                number = literal_fault(value)
                self.check(value, number)
                found[number] = found.get(number, 0) + 1
        self.assertEqual(set(found), {None, 1, 2, 3})
        self.assertGreater(min(found.values()), 15)

    def test_by_hand(self):
        self.check(FULL, None)
        for value in NO_TUPLES + ((), FULL[:5], FULL + (0,), list(FULL)):
            self.check(value, 1)
        for place in range(6):
            for wrong in NO_TUPLES:
                if not (place == 5 and type(wrong) is int):
                    self.check(changed(FULL, (place,), wrong), 1)
        for place, wrong in (((1,), FULL[1][:3]), ((1,), FULL[1] + (EMPTY_SLOT,)), ((1, 1), ((), (None,))),
                             ((1, 0, 0, 0, 0), 2), ((2, 1, 0, 1, 2), 2), ((2, 0, 0), (0, 1)), ((3,), (5, -1, -1)),
                             ((3, 1), 5), ((3, 0), 0), ((3, 0), 61), ((3, 0), True), ((4, 0), (3, 4)),
                             ((4, 0), (-1, 0)), ((4, 1), (8, 2)), ((4, 0), (3, 0, 0)), ((4, 0), [3, 0]),
                             ((4, 0), (True, 0)), ((5,), -1),
                             ((5,), 2 ** 60 + 1), ((5,), 7), ((5,), True), ((5,), None)):
            self.check(changed(FULL, place, wrong), 1)
        # 1 is looked at ahead of 2: a wrong COUNT behind a TOLD that doesn't ascend.
        self.check(changed(changed(FULL, (4,), FULL[4][::-1]), (5,), 7), 1)
        for place, wrong in (((4,), FULL[4][::-1]), ((4,), ((3, 0), (3, 2))), ((4,), ((3, 0),)),
                             ((4,), ((3, 0), (7, 1))), ((4,), ((3, 0), (4, 1), (7, 2))), ((4,), ((3, 0), (7, 0))),
                             ((4,), ((3, 0), (4, 0), (7, 2))), ((4,), FULL[4] + FULL[4][1:]), ((4,), ()),
                             ((3, 0), -1), ((1, 2), EMPTY_SLOT), ((1, 1), DIRTY_SAMPLE)):
            self.check(changed(FULL, place, wrong), 2)
        self.check(changed(FULL, (4,), ((3, 0), (6, 2))), None)
        self.check(changed(FULL, (5,), 2 ** 60), None)
        self.check(changed(changed(FULL, (5,), 2 ** 60), (4, 1, 0), 2 ** 60 - 1), None)
        self.check(changed(changed(FULL, (5,), 2 ** 60), (4, 1, 0), 2 ** 60), 1)
        # Fewer slots that go together otherwise.
        three = FULL[:1] + (FULL[1][:3], (FULL[2][0][:3], FULL[2][1]), FULL[3][:3]) + FULL[4:]
        self.check(three, 1)
        self.check((STEP_LAB, (), ((), ((0, ()),)), (), (), 0), 1)
        # Samples that are done, that wait too long; a DUE that can't be kept.
        done = changed(changed(FULL, (2, 0, 2), (1, 0)), (3, 2), -1)
        self.check(done, 2)
        waits = changed(changed(FULL, (2, 0, 0), (1, 2)), (2, 1, 0), (0, ()))
        self.check(waits, None)
        self.check(changed(waits, (2, 0, 0), (1, 3)), 2)
        self.check(changed(FULL, (3, 0), 1), 3)
        # The step may run for one tick more, the wash takes 2 and the second step 1.
        self.check(changed(FULL, (3, 0), 3), 3)
        self.check(changed(FULL, (3, 0), 4), None)
        # The tool 1 must be washed, too.
        self.check(changed(FULL, (3, 2), 2), 3)
        self.check(changed(FULL, (3, 2), 3), None)

    def test_what_can_be_kept(self):
        house = (STEP_LAB, (DIRTY_SAMPLE, DIRTY_SAMPLE, CLEAN_SAMPLE, EMPTY_SLOT), (((0, 0),) * 4, ((0, ()),)),
                 (4, 4, -1, -1), ((0, 0), (1, 1), (2, 2)), 3)
        self.check(house, None)
        self.check(changed(house, (3,), (3, 3, -1, -1)), 3)
        self.check(changed(house, (3,), (1, 4, 3, -1)), None)
        self.check(changed(house, (3,), (60, 60, 60, -1)), None)
        # The free sample is the only wash.
        self.check(house[:1] + ((DIRTY_SAMPLE, DIRTY_SAMPLE, EMPTY_SLOT, EMPTY_SLOT),) + house[2:3] + (
            (60, 60, -1, -1), ((0, 0), (1, 1)), 3), 3)

    def test_great_searches(self):
        task = MANY_STANDINGS[1]
        house = (task[0], task[1] + (EMPTY_SLOT,) * 3, start((task[0], task[1] + (EMPTY_SLOT,) * 3)), (60, -1, -1, -1),
                 ((0, 0),), 1)
        refused(self, TooGreat, {"most": 20000}, house_faults, house)
        # 3 isn't looked at there.
        self.assertIs(need_house(house), house)
        self.assertEqual(house_faults(changed(house, (3, 0), -1)), ())


class PlainTest(unittest.TestCase):
    def test_truths_are_no_integers(self):
        for wrong in NEVER_RIGHT:
            for place in ((5,), (4, 0, 0), (4, 0, 1), (3, 0), (2, 0, 0, 0)):
                self.assertEqual(house_faults(changed(FULL, place, wrong)), (1,))


if __name__ == "__main__":
    unittest.main()
