"""TASKS that differ from another one in one thing, and how soon they are done."""

from washedarms.forms import start
from washedarms.ranks import soonest
from washedarms.plain import replaced


def start_soonest(task):
    """SOONEST of the START."""
    return soonest(task, start(task))


def is_sooner(ticks, other):
    """Whether one SOONEST is sooner than another one, None being later than each number."""
    return ticks is not None and (other is None or ticks < other)


def with_part(task, index, part):
    """The TASK with another part of its LAB."""
    return (replaced(task[0], index, part), task[1])


def with_wash(task, number, wash):
    """The TASK with another wash in the place of one."""
    return with_part(task, 1, replaced(task[0][1], number, wash))


def with_step(task, sample, number, step):
    """The TASK with another step in the place of one."""
    steps, windows = task[1][sample]
    return (task[0], replaced(task[1], sample, (replaced(steps, number, step), windows)))


def with_window(task, sample, number, window):
    """The TASK with another window in the place of one."""
    steps, windows = task[1][sample]
    return (task[0], replaced(task[1], sample, (steps, replaced(windows, number, window))))


def with_arm(task):
    """The TASK with an arm more."""
    return with_part(task, 3, task[0][3] + 1)


def with_tool(task):
    """The TASK with a tool more, named last in each step that names the tool 0."""
    tools = task[0][2]
    changed = with_part(task, 2, tools + 1)
    for sample, number in step_places(task):
        step = task[1][sample][0][number]
        if 0 in step[1]:
            changed = with_step(changed, sample, number, replaced(step, 1, step[1] + (tools,)))
    return changed


def with_lows_high(task):
    """The TASK with LOW put up to HIGH in each job."""
    changed = task
    for number, (after, low, high) in enumerate(task[0][1]):
        changed = with_wash(changed, number, (after, high, high))
    for sample, number in step_places(task):
        step = task[1][sample][0][number]
        changed = with_step(changed, sample, number, replaced(step, 3, step[4]))
    return changed


def step_places(task):
    """The pairs of a sample and the number of one of its steps, ascending."""
    return [(sample, number) for sample, row in enumerate(task[1]) for number in range(len(row[0]))]
