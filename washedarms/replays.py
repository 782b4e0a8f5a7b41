"""LOGS replayed: the HOUSES that come by their words alone, without a search."""

from washedarms.entries import need_entries
from washedarms.errors import BadEntry
from washedarms.moves import is_move_here
from washedarms.slots import (
    claim_of, done_numbers, empty_slot, freed_numbers, house_start, is_out, is_running, number_in, promised_numbers,
    slot_of, spoilt_slot, ticked, with_break, with_sample, with_tool, without_numbers)
from washedarms.standings import broken_here
from washedarms.ticks import is_lateness_here


def replay_fault(lab, entries):
    """The index of the first ENTRY that cannot be and the word for it, None if there is none."""
    need_entries(lab, entries)
    houses, why = replay_of(lab, entries)
    return None if why is None else (len(houses) - 1, why)


def replayed(lab, entries):
    """The first HOUSE, and one behind each ENTRY ahead of the first that cannot be."""
    need_entries(lab, entries)
    houses, why = replay_of(lab, entries)
    return tuple(houses)


def house_after(lab, entries):
    """The HOUSE behind all ENTRIES, which all can be."""
    return needed_houses(lab, entries)[-1]


def needed_houses(lab, entries):
    """All HOUSES of a LOG, which is refused if one of its ENTRIES cannot be."""
    need_entries(lab, entries)
    houses, why = replay_of(lab, entries)
    if why is not None:
        raise BadEntry(len(houses) - 1, why)
    return houses


def replay_of(lab, entries):
    """The HOUSES of right ENTRIES up to the first that cannot be, and the word for that one, None if there is none."""
    houses = [house_start(lab)]
    for event, words in entries:
        deed = DEEDS[event[0]]
        why, house = deed(houses[-1], event, words)
        if why is not None:
            return (houses, why)
        houses.append(house)
    return (houses, None)


def asked(house, event, words):
    """Why an asked sample cannot be answered so, and the HOUSE behind it."""
    if (words[0] == ("full",)) != (empty_slot(house) is None):
        return ("slots", house)
    if words[0][0] != "promised":
        return (None, house)
    if words[0][1] != house[5]:
        return ("number", house)
    return (None, with_sample(house, event[1], words[0][2]))


def went(house, event, words):
    """Why a tick cannot be told so, and the HOUSE behind it."""
    task, standing, dues = claim_of(house)
    move, late = event[1:]
    if not is_move_here(task, standing, move):
        return ("move", house)
    if not is_lateness_here(task, standing, move, late):
        return ("lateness", house)
    behind = ticked(house, move, late)
    if 0 in behind[3]:
        return ("late", house)
    if broken_here(task, behind[2]):
        return ("window", house)
    numbers = done_numbers(behind)
    if [word[1] for word in words] != numbers:
        return ("number", house)
    return (None, without_numbers(behind, numbers))


def waived(house, event, words):
    """Why a promise cannot be waived, and the HOUSE behind it."""
    if slot_of(house, event[1]) is None:
        return ("number", house)
    return (None, freed_numbers(house, [event[1]]))


def taken(house, event, words):
    """Why taking a sample out cannot be answered so, and the HOUSE behind it."""
    slot = slot_of(house, event[1])
    if slot is None:
        return ("number", house)
    if (words[0][0] == "running") != is_running(house, slot):
        return ("running", house)
    return (None, without_numbers(house, [event[1]]) if words[0][0] == "taken" else house)


def broke(house, event, words):
    """Why the break of a tool cannot be told so, and the HOUSE behind it."""
    tool = event[1]
    if is_out(house, tool):
        return ("tool", house)
    slot = spoilt_slot(house, tool)
    spoilt = [] if slot is None else [number_in(house, slot)]
    broken = with_break(house, tool)
    back = back_numbers(words)
    if [word[1] for word in words if word[0] == "spoilt"] != spoilt:
        return ("number", house)
    if back != [number for number in promised_numbers(broken) if number in back]:
        return ("number", house)
    return (None, freed_numbers(broken, back))


def mended(house, event, words):
    """Why a tool cannot be mended, and the HOUSE behind it."""
    if not is_out(house, event[1]):
        return ("tool", house)
    return (None, with_tool(house, event[1], event[2], ()))


def back_numbers(words):
    """The NUMBERS of the promises that the words of a break take back."""
    return [word[1] for word in words if word[0] == "back"]


DEEDS = {"ask": asked, "tick": went, "waive": waived, "take": taken, "break": broke, "mend": mended}
