"""Easier TASKS, seen number by number, and the COVERS that they have of the other ones."""

from washedarms.errors import NotEasier, TooGreat
from washedarms.forms import need_standing, start, waiting_counts
from washedarms.labs import stuff_count
from washedarms.moves import moves_here
from washedarms.tasks import need_task
from washedarms.ticks import standing_behind, ticks_here
from washedarms.webs import MOST_NODES, live_here


def is_easier(task, other):
    """Whether the one TASK is easier than the other one."""
    need_task(task)
    need_task(other)
    return easier_here(task, other)


def led_standing(task, other, place):
    """The STANDING of the easier TASK to which one of the other TASK is led, None if a job has run too long there."""
    need_easier(task, other)
    need_standing(other, place)
    led = led_here(task, place)
    return None if any([runs_over(task, led, job) for state, job in led[1]]) else led


def easier_cover(task, other):
    """The COVER of the other TASK by an easier one that leading makes, its live pairs alone."""
    need_easier(task, other)
    found = {start(other): True}
    ahead = [start(other)]
    turn = 0
    while turn < len(ahead):
        place = ahead[turn]
        for behind in led_ticks(task, other, place):
            if behind not in found:
                found[behind] = True
                ahead.append(behind)
        if len(ahead) > MOST_NODES:
            raise TooGreat(MOST_NODES)
        turn += 1
    # A STANDING that is live is led to one that is, too.
    return tuple(sorted([(led_here(task, place), place) for place in ahead if live_here(other, place)]))


def need_easier(task, other):
    """Refuse two TASKS of which the one isn't easier than the other one."""
    if not is_easier(task, other):
        raise NotEasier()


def easier_here(task, other):
    """Whether the one of two right TASKS is easier than the other one."""
    if len(task[1]) != len(other[1]) or not is_easier_lab(task[0], other[0]):
        return False
    return all([is_easier_sample(sample, beside) for sample, beside in zip(task[1], other[1])])


def is_easier_lab(lab, other):
    """Whether a LAB is as an easier TASK needs it beside another one."""
    if len(lab[0]) < len(other[0]) or stuff_count(lab) < stuff_count(other) or len(lab[1]) < len(other[1]):
        return False
    if lab[2] < other[2] or lab[3] < other[3]:
        return False
    return (all([is_easier_row(row, beside) for row, beside in zip(lab[0], other[0])])
            and all([is_easier_wash(wash, beside) for wash, beside in zip(lab[1], other[1])]))


def is_easier_row(row, other):
    """Whether a row of MEETS has the states that the other one has."""
    return all([state is None or state == beside for beside, state in zip(row, other)])


def is_easier_wash(wash, other):
    """Whether a wash leaves, of each state of the other one, what that one may leave alone, within its span."""
    if not is_within(wash[1:], other[1:]):
        return False
    return all([result in results for mine, results in zip(wash[0], other[0]) for result in mine])


def is_within(span, other):
    """Whether LOW to HIGH lies within another LOW to HIGH."""
    return other[0] <= span[0] and span[1] <= other[1]


def is_easier_sample(sample, other):
    """Whether a SAMPLE has as many steps as another one, each an easier one, and windows that are no narrower."""
    if len(sample[0]) != len(other[0]):
        return False
    return (all([is_easier_step(step, beside) for step, beside in zip(sample[0], other[0])])
            and all([is_wider(window, beside) for window, beside in zip(sample[1], other[1])]))


def is_easier_step(step, other):
    """Whether a step is easier than another one, its window aside."""
    if step[0] != other[0] or not is_within(step[3:], other[3:]):
        return False
    return all([tool in step[1] for tool in other[1]]) and all([zone in other[2] for zone in step[2]])


def is_wider(window, other):
    """Whether a window is none, or at least as great as another one that isn't none."""
    return window is None or (other is not None and window >= other)


def led_here(task, place):
    """The STANDING of a right easier TASK to which a STANDING is led, if no job has run too long there."""
    rests = [(done, waited if waiting_counts(sample, done) else 0)
             for sample, (done, waited) in zip(task[1], place[0])]
    return (tuple(rests), place[1] + ((0, ()),) * (task[0][2] - len(place[1])))


def runs_over(task, standing, job):
    """Whether a job has run for at least its HIGH in the TASK."""
    if len(job) != 3:
        return False
    if job[0] == "wash":
        return job[2] >= task[0][1][job[1]][2]
    return job[2] >= task[1][job[1]][0][standing[0][job[1]][0]][4]


def led_ticks(task, other, place):
    """All STANDINGS of the other TASK that come from one if each job ends as it may in the easier TASK."""
    if not live_here(other, place):
        return []
    led = led_here(task, place)
    return [standing_behind(other, place, move, late) for move in moves_here(other, place)
            for late, behind in ticks_here(task, led, move)]
