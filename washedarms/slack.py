"""SLACK: how much of a TASK may change while all is still surely done in time."""

from washedarms.errors import BadNumber, BadTicks, BadWhat
from washedarms.forms import start
from washedarms.lateness import lateness_table
from washedarms.plain import is_between, is_worded, replaced
from washedarms.plans import live_plan
from washedarms.taskchanges import start_soonest, with_part, with_step, with_wash, with_window
from washedarms.tasks import need_task

MOST_TICKS = 10 ** 6


def changed(task, what, many):
    """The TASK with the CHANGE of a WHAT by a number."""
    need_task(task)
    need_what(task, what)
    if not is_between(many, 0, bound_of(task, what)):
        raise BadNumber(many)
    return change_here(task, what, many)


def slack_of(task, what, ticks):
    """The SLACK of a WHAT for so many ticks, None if the TASK as it is isn't surely done within them."""
    need_task(task)
    need_what(task, what)
    need_ticks(ticks)
    return slack_here(task, what, ticks)


def edge(task, what, ticks):
    """The SLACK with a PLAN that keeps to it and a TABLE that nothing greater does; None without a SLACK."""
    slack = slack_of(task, what, ticks)
    if slack is None:
        return None
    kept = change_here(task, what, slack)
    table = ()
    if slack < bound_of(task, what):
        late = change_here(task, what, slack + 1)
        table = lateness_table(late, start(late), ticks)
    return (slack, live_plan(kept, start(kept)), table)


def need_what(task, what):
    """Refuse what is no WHAT of a right TASK."""
    if not is_what(task, what):
        raise BadWhat(what)


def need_ticks(ticks):
    """Refuse what is no number of ticks for a SLACK."""
    if not is_between(ticks, 0, MOST_TICKS):
        raise BadTicks(ticks)


def is_what(task, value):
    """Whether a value is a WHAT of a right TASK."""
    if is_worded(value, "arms", 1):
        return True
    if is_worded(value, "wash", 2):
        return is_between(value[1], 0, len(task[0][1]) - 1)
    if not is_worded(value, "step", 3) and not is_worded(value, "window", 3):
        return False
    if not is_between(value[1], 0, len(task[1]) - 1):
        return False
    steps, windows = task[1][value[1]]
    if not is_between(value[2], 0, len(steps) - 1):
        return False
    return value[0] == "step" or windows[value[2]] is not None


def bound_of(task, what):
    """The greatest CHANGE of a WHAT."""
    if what[0] == "arms":
        return task[0][3] - 1
    if what[0] == "wash":
        return 6 - task[0][1][what[1]][2]
    steps, windows = task[1][what[1]]
    return 6 - steps[what[2]][4] if what[0] == "step" else windows[what[2]]


def change_here(task, what, many):
    """The TASK with a right CHANGE."""
    if what[0] == "arms":
        return with_part(task, 3, task[0][3] - many)
    if what[0] == "wash":
        after, low, high = task[0][1][what[1]]
        return with_wash(task, what[1], (after, low, high + many))
    word, sample, number = what
    if word == "window":
        return with_window(task, sample, number, task[1][sample][1][number] - many)
    step = task[1][sample][0][number]
    return with_step(task, sample, number, replaced(step, 4, step[4] + many))


def does(task, ticks):
    """Whether SOONEST of a TASK is at most so many ticks."""
    found = start_soonest(task)
    return found is not None and found <= ticks


def slack_here(task, what, ticks):
    """The SLACK of right things, None if there is none."""
    slack = None
    for many in range(bound_of(task, what) + 1):
        # What a CHANGE doesn't do no greater one does.
        if not does(change_here(task, what, many), ticks):
            return slack
        slack = many
    return slack
