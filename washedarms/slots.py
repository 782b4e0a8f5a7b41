"""What becomes of right HOUSES when samples come, leave and are freed, and when tools break and are mended."""

from washedarms.dues import due_behind
from washedarms.forms import start
from washedarms.plain import is_from, replaced
from washedarms.standings import samples_on
from washedarms.ticks import standing_behind

EMPTY = ((), ())
SLOTS = 4


def house_start(lab):
    """The first HOUSE of a right LAB."""
    slots = (EMPTY,) * SLOTS
    return (lab, slots, start((lab, slots)), (-1,) * SLOTS, (), 0)


def claim_of(house):
    """The TASK, the STANDING and the DUES of a HOUSE."""
    return ((house[0], house[1]), house[2], house[3])


def empty_slot(house):
    """The least empty slot, None if there is none."""
    empty = [slot for slot, sample in enumerate(house[1]) if sample == EMPTY]
    return empty[0] if empty else None


def slot_of(house, number):
    """The slot of the sample with this NUMBER; None if there is none, whatever the value is."""
    if not is_from(number, 0):
        return None
    slots = [slot for told, slot in house[4] if told == number]
    return slots[0] if slots else None


def number_in(house, slot):
    """The NUMBER of the sample in a slot."""
    return [number for number, told in house[4] if told == slot][0]


def is_running(house, slot):
    """Whether a step of the sample in a slot runs."""
    return slot in samples_on(house[2])


def promised_numbers(house):
    """The NUMBERS of the promised samples, ascending."""
    return [number for number, slot in house[4] if house[3][slot] != -1]


def with_sample(house, sample, due):
    """The HOUSE that has taken a sample in, with its DUE, at its least empty slot."""
    lab, slots, standing, dues, told, count = house
    slot = empty_slot(house)
    return (lab, replaced(slots, slot, sample), standing, replaced(dues, slot, due), told + ((count, slot),), count + 1)


def without_slot(house, slot):
    """The HOUSE whose sample in a slot, of which no step runs, has left it."""
    lab, slots, standing, dues, told, count = house
    return (lab, replaced(slots, slot, EMPTY), (replaced(standing[0], slot, (0, 0)), standing[1]),
            replaced(dues, slot, -1), tuple([pair for pair in told if pair[1] != slot]), count)


def freed_slot(house, slot):
    """The HOUSE whose sample in a slot is free."""
    lab, slots, standing, dues, told, count = house
    steps = slots[slot][0]
    rests = replaced(standing[0], slot, (standing[0][slot][0], 0))
    return (lab, replaced(slots, slot, (steps, (None,) * len(steps))), (rests, standing[1]),
            replaced(dues, slot, -1), told, count)


def with_tool(house, tool, state, job):
    """The HOUSE with another STATE and JOB of a tool."""
    lab, slots, standing, dues, told, count = house
    return (lab, slots, (standing[0], replaced(standing[1], tool, (state, job))), dues, told, count)


def is_out(house, tool):
    """Whether a tool is out of use."""
    return house[2][1][tool][1] == ("out",)


def spoilt_slot(house, tool):
    """The slot of the sample whose step runs on a tool, None if none does."""
    job = house[2][1][tool][1]
    return job[1] if job[:1] == ("step",) else None


def with_break(house, tool):
    """The HOUSE behind the break of a tool, without the sample that it spoils, before promises are taken back."""
    slot = spoilt_slot(house, tool)
    broken = with_tool(house, tool, house[2][1][tool][0], ("out",))
    return broken if slot is None else without_slot(broken, slot)


def ticked(house, move, lateness):
    """The HOUSE behind a tick, before samples that are done leave it; a DUE may come to 0."""
    task, standing, dues = claim_of(house)
    behind = standing_behind(task, standing, move, lateness)
    left = [due_behind(task, behind, slot, due) for slot, due in enumerate(dues)]
    return house[:2] + (behind, tuple(left)) + house[4:]


def done_numbers(house):
    """The NUMBERS of the samples in slots that are done, ascending."""
    lab, slots, standing, dues, told, count = house
    return [number for number, slot in told if standing[0][slot][0] == len(slots[slot][0])]


def without_numbers(house, numbers):
    """The HOUSE whose samples with these NUMBERS have left it."""
    for number in numbers:
        house = without_slot(house, slot_of(house, number))
    return house


def freed_numbers(house, numbers):
    """The HOUSE whose samples with these NUMBERS are free."""
    for number in numbers:
        house = freed_slot(house, slot_of(house, number))
    return house


def dues_of(house, numbers):
    """The DUES of the samples with these NUMBERS, -1 of all others."""
    asked = [slot for number, slot in house[4] if number in numbers]
    return tuple([due if slot in asked else -1 for slot, due in enumerate(house[3])])
