"""What a HOUSE does at an EVENT, and what it tells."""

from washedarms.dues import can_be_kept, least_due
from washedarms.errors import BadEvent, BadLateness, BadNumber, BadSample, BadTool
from washedarms.housemoves import house_move
from washedarms.houses import need_house
from washedarms.labs import need_state
from washedarms.plain import is_between
from washedarms.slots import (
    claim_of, done_numbers, dues_of, empty_slot, freed_numbers, freed_slot, is_out, is_running, number_in,
    promised_numbers, slot_of, spoilt_slot, ticked, with_break, with_sample, with_tool, without_numbers, without_slot)
from washedarms.tasks import sample_place
from washedarms.ticks import is_lateness_here


def house_step(house, event):
    """The pair of the HOUSE behind an EVENT and the words that it tells."""
    need_house(house)
    word = need_event(event)
    deed = DEEDS[word]
    return deed(house, event)


def need_event(event):
    """The word of an EVENT, if a value has one and as many things as belong to it."""
    if type(event) is not tuple or not event or type(event[0]) is not str or event[0] not in LENGTHS:
        raise BadEvent(None)
    if len(event) != LENGTHS[event[0]]:
        raise BadEvent(event[0])
    return event[0]


def need_sample(house, sample):
    """Refuse what is no SAMPLE of 1 to 4 steps of the LAB of a HOUSE."""
    if sample_place(house[0], sample) is not None or not sample[0]:
        raise BadSample(sample)


def need_slot(house, number):
    """The slot of the sample with this NUMBER."""
    slot = slot_of(house, number)
    if slot is None:
        raise BadNumber(number)
    return slot


def need_tool(house, tool, out):
    """Refuse what is no tool of the LAB of a HOUSE, or one that is out of use where that isn't asked, or not."""
    if not is_between(tool, 0, house[0][2] - 1) or is_out(house, tool) != out:
        raise BadTool(tool)


def due_to_tell(house, sample):
    """The DUE that a sample would be promised in the least empty slot, None if there is none."""
    slot = empty_slot(house)
    if slot is None:
        return None
    task, standing, dues = claim_of(with_sample(house, sample, -1))
    return least_due(task, standing, dues, slot)


def ask(house, event):
    """A sample is asked for."""
    need_sample(house, event[1])
    if empty_slot(house) is None:
        return (house, (("full",),))
    due = due_to_tell(house, event[1])
    if due is None:
        return (house, (("refused",),))
    return (with_sample(house, event[1], due), (("promised", house[5], due),))


def tick(house, event):
    """A tick goes."""
    move = house_move(house)
    task, standing, dues = claim_of(house)
    if not is_lateness_here(task, standing, move, event[1]):
        raise BadLateness(event[1])
    behind = ticked(house, move, event[1])
    numbers = done_numbers(behind)
    return (without_numbers(behind, numbers), tuple([("done", number) for number in numbers]))


def waive(house, event):
    """A promise is waived."""
    slot = need_slot(house, event[1])
    return (freed_slot(house, slot), (("free", event[1]),))


def take(house, event):
    """A sample is to be taken out."""
    slot = need_slot(house, event[1])
    if is_running(house, slot):
        return (house, (("running", event[1]),))
    left = without_slot(house, slot)
    task, standing, dues = claim_of(left)
    if not can_be_kept(task, standing, dues):
        return (house, (("needed", event[1]),))
    return (left, (("taken", event[1]),))


def break_tool(house, event):
    """A tool breaks."""
    tool = event[1]
    need_tool(house, tool, False)
    slot = spoilt_slot(house, tool)
    words = () if slot is None else (("spoilt", number_in(house, slot)),)
    broken = with_break(house, tool)
    stayed = numbers_kept(broken, promised_numbers(broken))
    back = [number for number in promised_numbers(broken) if number not in stayed]
    return (freed_numbers(broken, back), words + tuple([("back", number) for number in back]))


def mend(house, event):
    """A tool is mended."""
    tool, state = event[1:]
    need_tool(house, tool, True)
    need_state(house[0], state)
    return (with_tool(house, tool, state, ()), (("mended", tool),))


def numbers_kept(house, numbers):
    """Those of these NUMBERS of promised samples whose promises stay, when they are gone through in their order."""
    stayed = []
    task, standing, dues = claim_of(house)
    for number in numbers:
        if can_be_kept(task, standing, dues_of(house, stayed + [number])):
            stayed.append(number)
    return stayed


LENGTHS = {"ask": 2, "tick": 2, "waive": 2, "take": 2, "break": 2, "mend": 3}
DEEDS = {"ask": ask, "tick": tick, "waive": waive, "take": take, "break": break_tool, "mend": mend}
