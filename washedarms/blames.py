"""Who is to blame for a missed promise: the last deed of the house before which all could be kept."""

from washedarms.duepapers import due_plan, due_table
from washedarms.dues import can_be_kept
from washedarms.entries import need_entries
from washedarms.replays import replay_of, replayed
from washedarms.slots import claim_of


def kept_row(lab, entries):
    """For each HOUSE of a replayed LOG whether its claim can be kept."""
    return tuple([is_kept_house(house) for house in replayed(lab, entries)])


def blame(lab, entries):
    """None if no promise is missed, otherwise the ENTRY that is to blame, with a plan ahead of it, a table behind."""
    need_entries(lab, entries)
    houses, why = replay_of(lab, entries)
    if why not in ("late", "window"):
        return None
    last = len(houses) - 1
    index = last
    while not is_kept_house(houses[index]):
        index -= 1
    task, standing, dues = claim_of(houses[index])
    plan = due_plan(task, standing, dues)
    if index == last:
        return (index, plan, None)
    task, standing, dues = claim_of(houses[index + 1])
    return (index, plan, due_table(task, standing, dues))


def is_kept_house(house):
    """Whether the claim of a HOUSE can be kept."""
    task, standing, dues = claim_of(house)
    return can_be_kept(task, standing, dues)
