"""STATEMENTS that hold for each TASK, looked at for one."""

from washedarms.forms import start
from washedarms.lateness import lateness_table
from washedarms.plain import replaced
from washedarms.planchecks import is_live_plan
from washedarms.plans import live_plan
from washedarms.tablechecks import is_lateness_table
from washedarms.taskchanges import (
    is_sooner, start_soonest, step_places, with_arm, with_lows_high, with_step, with_tool, with_wash, with_window)
from washedarms.tasks import need_task


def statement_faults(task):
    """The numbers of the STATEMENTS that don't hold, ascending."""
    need_task(task)
    first = start_soonest(task)
    faults = () if has_papers(task, first) else (1,)
    for number, tasks in ((2, with_longer_job(task)), (3, with_narrower_window(task))):
        if any([is_sooner(start_soonest(changed), first) for changed in tasks]):
            faults = faults + (number,)
    for number, tasks in ((4, with_more_arms(task)), (5, with_more_tools(task)), (6, [with_lows_high(task)])):
        if any([is_sooner(first, start_soonest(changed)) for changed in tasks]):
            faults = faults + (number,)
    return faults


def has_papers(task, first):
    """Whether the PLAN and the TABLE told for SOONEST of the START are right ones, or rightly told to be none."""
    standing = start(task)
    plan = live_plan(task, standing)
    if first is None:
        return plan is None and is_lateness_table(task, standing, None, lateness_table(task, standing, None))
    if not is_live_plan(task, standing, first, plan):
        return False
    return first == 0 or is_lateness_table(task, standing, first - 1, lateness_table(task, standing, first - 1))


def with_longer_job(task):
    """All TASKS with HIGH of one job one more, as far as it isn't above 6 then."""
    found = [with_wash(task, number, (after, low, high + 1)) for number, (after, low, high) in enumerate(task[0][1])
             if high < 6]
    for sample, number in step_places(task):
        step = task[1][sample][0][number]
        if step[4] < 6:
            found.append(with_step(task, sample, number, replaced(step, 4, step[4] + 1)))
    return found


def with_narrower_window(task):
    """All TASKS with one window one less, as far as it isn't 0, or 6 in the place of None."""
    found = []
    for sample, number in step_places(task):
        window = task[1][sample][1][number]
        if number > 0 and window != 0:
            found.append(with_window(task, sample, number, 6 if window is None else window - 1))
    return found


def with_more_arms(task):
    """The TASK with an arm more, if there can be one more."""
    return [with_arm(task)] if task[0][3] < 3 else []


def with_more_tools(task):
    """The TASK with a tool more, if there can be one more."""
    return [with_tool(task)] if task[0][2] < 3 else []
