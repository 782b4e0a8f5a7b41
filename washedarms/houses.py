"""What a HOUSE is, and what must always hold of it."""

from washedarms.dues import can_be_kept, dues_fault
from washedarms.errors import BadHouse
from washedarms.forms import stands
from washedarms.labs import need_lab
from washedarms.plain import ascends, is_between, is_tuple_of
from washedarms.slots import EMPTY, SLOTS, claim_of, done_numbers, house_start
from washedarms.standings import broken_here
from washedarms.tasks import is_task

MOST_COUNT = 2 ** 60


def house_new(lab):
    """The HOUSE with four empty slots."""
    need_lab(lab)
    return house_start(lab)


def house_faults(value):
    """() of a HOUSE of which all holds, otherwise a tuple with the number of the first statement that is broken."""
    number = early_fault(value)
    if number is not None:
        return (number,)
    task, standing, dues = claim_of(value)
    return () if can_be_kept(task, standing, dues) else (3,)


def need_house(house):
    """The HOUSE itself, if its things have their forms and go together."""
    number = early_fault(house)
    if number is not None:
        raise BadHouse(number)
    return house


def house_task(house):
    """The TASK, the STANDING and the DUES of a HOUSE."""
    need_house(house)
    return claim_of(house)


def early_fault(value):
    """1 or 2, the number of the first statement that a value breaks; None if it breaks neither."""
    if not has_forms(value):
        return 1
    return None if goes_together(value) else 2


def has_forms(value):
    """Whether all things of a value have the forms of those of a HOUSE."""
    if not is_tuple_of(value, 6) or not is_tuple_of(value[1], SLOTS):
        return False
    task, standing, dues = claim_of(value)
    if not is_task(task) or not stands(task, standing) or dues_fault(task, standing, dues) is not None:
        return False
    told, count = value[4:]
    if not is_between(count, 0, MOST_COUNT) or type(told) is not tuple:
        return False
    return all([is_told(pair, count) for pair in told])


def is_told(value, count):
    """Whether a value is a pair of a NUMBER that was told already and a slot."""
    return is_tuple_of(value, 2) and is_between(value[0], 0, count - 1) and is_between(value[1], 0, SLOTS - 1)


def goes_together(house):
    """Whether the things of a value that has their forms go together."""
    lab, slots, standing, dues, told, count = house
    # NUMBERS that ascend are unlike, and let TOLD ascend.
    if not ascends([number for number, slot in told]):
        return False
    if sorted([slot for number, slot in told]) != [slot for slot in range(SLOTS) if slots[slot] != EMPTY]:
        return False
    if done_numbers(house) or broken_here((lab, slots), standing):
        return False
    return all([due != -1 or is_without_windows(sample) for sample, due in zip(slots, dues)])


def is_without_windows(sample):
    """Whether all windows of a SAMPLE are None."""
    return all([window is None for window in sample[1]])
