"""Ticks: the LATENESSES of a MOVE, and what each leads to."""

from washedarms.errors import BadLateness, BadMove
from washedarms.forms import waiting_counts
from washedarms.moves import is_move_here, moves_here, need_unbroken
from washedarms.plain import is_tuple_of
from washedarms.tasks import next_step


def latenesses_of(task, standing, move):
    """All LATENESSES of a MOVE, in order."""
    need_move(task, standing, move)
    return latenesses_here(task, standing, move)


def is_lateness(task, standing, move, lateness):
    """Whether a value is a LATENESS of a MOVE."""
    need_move(task, standing, move)
    return is_lateness_here(task, standing, move, lateness)


def after(task, standing, move, lateness):
    """The STANDING behind the tick."""
    need_move(task, standing, move)
    if not is_lateness_here(task, standing, move, lateness):
        raise BadLateness(lateness)
    return standing_behind(task, standing, move, lateness)


def need_move(task, standing, move):
    """Refuse what is no MOVE at a STANDING of a TASK."""
    need_unbroken(task, standing)
    if not is_move_here(task, standing, move):
        raise BadMove(move)


def latenesses_here(task, standing, move):
    """All LATENESSES of a right MOVE, in order."""
    return tuple([late for late, behind in ticks_here(task, standing, move)])


def is_lateness_here(task, standing, move, value):
    """Whether a value is a LATENESS of a right MOVE."""
    # The kinds are looked at first, as True would be equal to 1.
    if type(value) is not tuple or not all([is_ending(pair) for pair in value]):
        return False
    return value in latenesses_here(task, standing, move)


def is_ending(value):
    """Whether a value is a pair of integers."""
    return is_tuple_of(value, 2) and type(value[0]) is int and type(value[1]) is int


def pairs_run(standing, move):
    """The pairs of the tools when the STARTS have begun and each GONE is one greater."""
    pairs = []
    begun = {begin[0]: begin[1:] for begin in move}
    for tool, pair in enumerate(standing[1]):
        state, job = pair
        if tool in begun:
            job = begun[tool] + (1,)
        elif len(job) == 3:
            job = job[:2] + (job[2] + 1,)
        pairs = pairs + [(state, job)]
    return pairs


def endings_of(task, standing, tool, pair):
    """What a LATENESS may tell of a tool: () if its JOB goes on, otherwise the pair of its end."""
    state, job = pair
    if len(job) != 3:
        return [()]
    if job[0] == "step":
        step = next_step(task, standing, job[1])
        results, low, high = (task[0][0][state][step[0]],), step[3], step[4]
    else:
        results, low, high = task[0][1][job[1]][0][state], task[0][1][job[1]][1], task[0][1][job[1]][2]
    choices = [()] if job[2] < high else []
    if job[2] >= low:
        choices = choices + [((tool, result),) for result in results]
    return choices


def rests_run(task, standing, pairs):
    """The first thing of the STANDING behind a tick by which nothing ends, when its pairs of the tools are told."""
    on = [job[1] for state, job in pairs if job[:1] == ("step",)]
    rests = []
    for sample, (done, waited) in enumerate(standing[0]):
        # A step's beginning sets WAITED back, so a sample that is on never waits.
        waits = sample not in on and waiting_counts(task[1][sample], done)
        rests.append((done, waited + 1 if waits else 0))
    return tuple(rests)


def ended(row, job, ending):
    """What becomes of a triple (LATENESS, SAMPLES, TOOLS) when a JOB ends by a pair (TOOL, STATE), too."""
    late, rests, pairs = row
    tool, state = ending
    if job[0] == "step":
        sample = job[1]
        rests = rests[:sample] + ((rests[sample][0] + 1, 0),) + rests[sample + 1:]
    return (late + (ending,), rests, pairs[:tool] + ((state, ()),) + pairs[tool + 1:])


def ticks_here(task, standing, move):
    """All pairs of a LATENESS of a right MOVE and the STANDING to which it leads, in order."""
    pairs = pairs_run(standing, move)
    rows = [((), rests_run(task, standing, pairs), tuple(pairs))]
    for tool, pair in enumerate(pairs):
        found = []
        for choice in endings_of(task, standing, tool, pair):
            found = found + [row if choice == () else ended(row, pair[1], choice[0]) for row in rows]
        rows = found
    return [(late, (rests, behind)) for late, rests, behind in sorted(rows)]


def ticks_from(task, standing):
    """For each MOVE at a right STANDING that isn't broken, in order: the MOVE and what ticks_here tells of it."""
    return [(move, ticks_here(task, standing, move)) for move in moves_here(task, standing)]


def standing_behind(task, standing, move, lateness):
    """The STANDING to which a right LATENESS of a right MOVE leads."""
    pairs = pairs_run(standing, move)
    row = ((), rests_run(task, standing, pairs), tuple(pairs))
    for ending in lateness:
        row = ended(row, pairs[ending[0]][1], ending)
    return row[1:]
