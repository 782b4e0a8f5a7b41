"""What comes from the START, the shortest RUNS to it, and CLOSED LOTS, by which something does not come."""

from washedarms.errors import TooGreat
from washedarms.forms import need_standing, stands, start
from washedarms.plain import ascends
from washedarms.tasks import need_task
from washedarms.ticks import ticks_from
from washedarms.webs import MOST_NODES, live_here


def what_comes(task):
    """All STANDINGS that come, ascending."""
    need_task(task)
    return tuple(sorted(comings_of(task)))


def least_run(task, standing):
    """Of the shortest RUNS that lead to a STANDING the least one, None if it doesn't come."""
    need_standing(task, standing)
    found = comings_of(task)
    if standing not in found:
        return None
    run = []
    while found[standing] is not None:
        standing, row = found[standing]
        run.append(row)
    return tuple(run[::-1])


def closed_lot(task, standing):
    """None if a STANDING comes, otherwise all that come, ascending."""
    need_standing(task, standing)
    found = comings_of(task)
    return None if standing in found else tuple(sorted(found))


def lot_fault(task, lot):
    """The word for what a value breaks as a CLOSED LOT, or ""."""
    need_task(task)
    if type(lot) is not tuple or not all([stands(task, one) for one in lot]) or not ascends(lot):
        return "form"
    inside = {one: True for one in lot}
    if start(task) not in inside:
        return "start"
    for one in lot:
        if not all([behind in inside for row, behind in rows_behind(task, one)]):
            return "open"
    return ""


def rows_behind(task, standing):
    """All pairs of a row of a RUN, in order, and the STANDING to which it leads; none of what isn't live."""
    if not live_here(task, standing):
        return []
    return [((move, late), behind) for move, ends in ticks_from(task, standing) for late, behind in ends]


def comings_of(task):
    """For each STANDING that comes: the one ahead of it and the row that leads on, None of the START.

    Standings are met in the order of their least shortest RUNS, so the row by which one is first met ends its own.
    """
    found = {start(task): None}
    ahead = [start(task)]
    turn = 0
    while turn < len(ahead):
        standing = ahead[turn]
        for row, behind in rows_behind(task, standing):
            if behind not in found:
                found[behind] = (standing, row)
                ahead.append(behind)
        if len(ahead) > MOST_NODES:
            raise TooGreat(MOST_NODES)
        turn += 1
    return found
