"""Papers for what a HOUSE refuses, and for promises that it takes back."""

from washedarms.duepapers import due_table
from washedarms.dues import MOST_DUE
from washedarms.houses import need_house
from washedarms.housing import due_to_tell, need_sample, need_slot, need_tool, numbers_kept
from washedarms.slots import claim_of, dues_of, empty_slot, promised_numbers, with_break, with_sample


def asked_due(house, sample):
    """The DUE that would be promised to a sample, None if the HOUSE is full or would refuse it."""
    need_house(house)
    need_sample(house, sample)
    return due_to_tell(house, sample)


def asked_paper(house, sample):
    """The table for a refusal of a sample, None if it would not be refused."""
    if asked_due(house, sample) is not None or empty_slot(house) is None:
        return None
    task, standing, dues = claim_of(with_sample(house, sample, MOST_DUE))
    return due_table(task, standing, dues)


def back_paper(house, tool, number):
    """The table for a promise that the break of a tool takes back, None if it would not be taken back."""
    need_house(house)
    need_tool(house, tool, False)
    need_slot(house, number)
    broken = with_break(house, tool)
    promised = promised_numbers(broken)
    if number not in promised:
        return None
    stayed = numbers_kept(broken, [earlier for earlier in promised if earlier < number])
    task, standing, dues = claim_of(broken)
    return due_table(task, standing, dues_of(broken, stayed + [number]))
