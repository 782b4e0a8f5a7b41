"""Ticks: the LATENESSES of a MOVE, and what each leads to."""

from washedarms.errors import BadLateness, BadMove
from washedarms.forms import waiting_counts
from washedarms.moves import is_move_here, need_unbroken
from washedarms.plain import is_tuple_of
from washedarms.tasks import next_step


def latenesses_of(task, standing, move):
    """All LATENESSES of a MOVE, in order."""
    need_move(task, standing, move)
    return latenesses_here(task, standing, move)


def is_lateness(task, standing, move, lateness):
    """Whether a value is a LATENESS of a MOVE."""
    need_move(task, standing, move)
    return is_lateness_here(task, standing, move, lateness)


def after(task, standing, move, lateness):
    """The STANDING behind the tick."""
    need_move(task, standing, move)
    if not is_lateness_here(task, standing, move, lateness):
        raise BadLateness(lateness)
    return standing_behind(task, standing, move, lateness)


def need_move(task, standing, move):
    """Refuse what is no MOVE at a STANDING of a TASK."""
    need_unbroken(task, standing)
    if not is_move_here(task, standing, move):
        raise BadMove(move)


def latenesses_here(task, standing, move):
    """All LATENESSES of a right MOVE, in order."""
    rows = [()]
    for tool, pair in enumerate(pairs_run(standing, move)):
        choices = endings_of(task, standing, tool, pair)
        rows = [row + choice for row in rows for choice in choices]
    return tuple(sorted(rows))


def is_lateness_here(task, standing, move, value):
    """Whether a value is a LATENESS of a right MOVE."""
    # The kinds are looked at first, as True would be equal to 1.
    if type(value) is not tuple or not all([is_ending(pair) for pair in value]):
        return False
    return value in latenesses_here(task, standing, move)


def is_ending(value):
    """Whether a value is a pair of integers."""
    return is_tuple_of(value, 2) and type(value[0]) is int and type(value[1]) is int


def pairs_run(standing, move):
    """The pairs of the tools when the STARTS have begun and each GONE is one greater."""
    pairs = []
    begun = {begin[0]: begin[1:] for begin in move}
    for tool, pair in enumerate(standing[1]):
        state, job = pair
        if tool in begun:
            job = begun[tool] + (1,)
        elif len(job) == 3:
            job = job[:2] + (job[2] + 1,)
        pairs = pairs + [(state, job)]
    return pairs


def endings_of(task, standing, tool, pair):
    """What a LATENESS may tell of a tool: () if its JOB goes on, otherwise the pair of its end."""
    state, job = pair
    if len(job) != 3:
        return [()]
    if job[0] == "step":
        step = next_step(task, standing, job[1])
        results, low, high = (task[0][0][state][step[0]],), step[3], step[4]
    else:
        results, low, high = task[0][1][job[1]][0][state], task[0][1][job[1]][1], task[0][1][job[1]][2]
    choices = [()] if job[2] < high else []
    if job[2] >= low:
        choices = choices + [((tool, result),) for result in results]
    return choices


def standing_behind(task, standing, move, lateness):
    """The STANDING to which a right LATENESS of a right MOVE leads."""
    ends = {tool: state for tool, state in lateness}
    pairs = pairs_run(standing, move)
    on = {job[1]: tool for tool, (state, job) in enumerate(pairs) if job[:1] == ("step",)}
    rests = []
    for sample, (done, waited) in enumerate(standing[0]):
        if sample in on:
            # A step's beginning and its end both set WAITED back.
            rest = (done + 1 if on[sample] in ends else done, 0)
        else:
            rest = (done, waited + 1 if waiting_counts(task[1][sample], done) else 0)
        rests = rests + [rest]
    pairs = [(ends[tool], ()) if tool in ends else pair for tool, pair in enumerate(pairs)]
    return (tuple(rests), tuple(pairs))
