"""Questions that ENTRIES of a LOG ask: claims that need a plan or a table."""

from washedarms.dues import MOST_DUE
from washedarms.plain import replaced
from washedarms.replays import back_numbers, needed_houses
from washedarms.slots import claim_of, dues_of, promised_numbers, slot_of, with_break, with_sample, without_slot


def log_questions(lab, entries):
    """For each ENTRY the tuple of its questions."""
    houses = needed_houses(lab, entries)
    return tuple([questions_of(houses[index], entry, houses[index + 1]) for index, entry in enumerate(entries)])


def questions_of(house, entry, behind):
    """The questions of an ENTRY that can be, with the HOUSES ahead of it and behind it."""
    event, words = entry
    if event[0] == "break":
        return break_questions(with_break(house, event[1]), back_numbers(words))
    word = words[0][0] if words else ""
    if word == "promised":
        return promise_questions(behind, words[0][1], words[0][2])
    if word == "refused":
        return (question("table", with_sample(house, event[1], MOST_DUE)),)
    if word == "taken":
        return (question("plan", behind),)
    if word == "needed":
        return (question("table", without_slot(house, slot_of(house, event[1]))),)
    return ()


def question(word, house):
    """The question for a plan or a table of the claim of a HOUSE."""
    return (word,) + claim_of(house)


def promise_questions(house, number, due):
    """The questions of a promise, with the HOUSE behind it."""
    if due == 1:
        return (question("plan", house),)
    task, standing, dues = claim_of(house)
    return (question("plan", house), ("table", task, standing, replaced(dues, slot_of(house, number), due - 1)))


def break_questions(broken, back):
    """The questions of a break, with the HOUSE behind it before these promises are taken back."""
    task, standing, dues = claim_of(broken)
    rows = []
    stayed = []
    for number in promised_numbers(broken):
        if number in back:
            rows.append(("table", task, standing, dues_of(broken, stayed + [number])))
        else:
            stayed.append(number)
    return (*rows, ("plan", task, standing, dues_of(broken, stayed)))
