"""COVERS joined and united, and LIVE PLANS led over them."""

from washedarms.covers import cover_table, need_cover
from washedarms.planchecks import need_plan
from washedarms.sides import Side, first_answer, pair_here
from washedarms.tasks import need_task


def joined_covers(task, other, third, cover, paper):
    """The live pairs of the COVER of the third TASK by the first one that two COVERS make, ascending."""
    need_task(task)
    need_task(other)
    need_task(third)
    need_cover(task, other, 0, cover)
    need_cover(other, third, 1, paper)
    one, last = Side(task), Side(third)
    across = {}
    for place, end in paper:
        across.setdefault(place, []).append((last.number_of(end), end))
    found = {}
    for standing, place in cover:
        number = one.number_of(standing)
        for across_number, end in across.get(place, []):
            if pair_here(one, last, (number, across_number)) == "live":
                found[(number, across_number)] = (standing, end)
    return tuple(sorted([found[pair] for pair in found]))


def united_covers(task, other, cover, paper):
    """All pairs of two COVERS, ascending."""
    need_task(task)
    need_task(other)
    need_cover(task, other, 0, cover)
    need_cover(task, other, 1, paper)
    found = {row: True for row in cover + paper}
    return tuple(sorted(found))


def led_plan(task, other, cover, plan):
    """The LIVE PLAN of the one TASK to which a plan paper of the other one is led over a COVER."""
    need_task(task)
    need_task(other)
    need_cover(task, other, 0, cover)
    need_plan(other, plan)
    one, beside = Side(task), Side(other)
    table = cover_table(one, beside, cover)
    rows = {row[0]: row for row in plan}
    best = {}
    # The COVER ascends, so of equal RANKS the least STANDING of the other TASK is met first.
    for standing, place in cover:
        if place in rows and one.words[one.number_of(standing)] != "done":
            if standing not in best or rows[place][2] < best[standing][2]:
                best[standing] = rows[place]
    return tuple(sorted([led_row(one, beside, table, standing, best[standing]) for standing in best]))


def led_row(one, other, table, standing, row):
    """The row of a STANDING to which a row of a plan paper is led."""
    behind = [ends for move, ends in other.ticks_at(other.number_of(row[0])) if move == row[1]][0]
    return (standing, first_answer(one, other, table, one.number_of(standing), behind), row[2])
