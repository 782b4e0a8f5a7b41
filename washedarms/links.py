"""ORDERS: what one is, its LINKS, and the first thing that keeps it from being SOUND.

Jobs are known by their names (TOOL, PLACE), and LINKS by a dict that tells for
each pair (FIRST, LATER) its GAP; FIRST is () for the start.
"""

from washedarms.errors import BadOrder, Unsound
from washedarms.forms import share_zone
from washedarms.plain import is_between, is_tuple_of, is_worded
from washedarms.tasks import need_task

MOST_JOBS = 20
MOST_GAP = 1000


def order_fault(task, order):
    """The fault of an ORDER, None of a SOUND one."""
    need_order(task, order)
    return fault_of(task, order)


def is_sound(task, order):
    """Whether an ORDER is SOUND."""
    return order_fault(task, order) is None


def order_links(task, order):
    """The LINKS of an ORDER, ascending."""
    need_order(task, order)
    gaps = gaps_of(task, order)
    return tuple(sorted([(first, gaps[(first, later)], later) for first, later in gaps]))


def led_jobs(task, order):
    """For each job, in rows, the jobs that it is led to, ascending."""
    need_order(task, order)
    return in_rows(order, led_from(order, gaps_of(task, order)))


def need_order(task, order):
    """Refuse what is no TASK, or no ORDER of it."""
    need_task(task)
    fault = form_fault(task, order)
    if fault is not None:
        raise BadOrder(fault[0], fault[1])


def need_sound(task, order):
    """Refuse what is no ORDER of a TASK, or none that is SOUND."""
    fault = order_fault(task, order)
    if fault is not None:
        raise Unsound(fault)


def form_fault(task, value):
    """The pair (WORD, PLACE) of what is wrong with a value as an ORDER, None if it is one."""
    if not is_tuple_of(value, 2):
        return ("order", None)
    rows, holds = value
    if not is_tuple_of(rows, task[0][2]) or not all([type(row) is tuple for row in rows]):
        return ("rows", None)
    jobs = jobs_of(value)
    for job in jobs:
        if not is_thing(task, thing_of(value, job)):
            return ("rows", job)
    if len(jobs) > MOST_JOBS:
        return ("rows", None)
    if type(holds) is not tuple:
        return ("holds", None)
    told = {}
    for index, hold in enumerate(holds):
        if not is_hold(value, hold) or (index > 0 and hold <= holds[index - 1]) or (hold[0], hold[2]) in told:
            return ("holds", index)
        told[(hold[0], hold[2])] = True
    return None


def is_thing(task, value):
    """Whether a value may stand in the ROWS of an ORDER."""
    if is_worded(value, "wash", 2):
        return is_between(value[1], 0, len(task[0][1]) - 1)
    return (is_worded(value, "step", 3) and is_between(value[1], 0, len(task[1]) - 1)
            and is_between(value[2], 0, len(task[1][value[1]][0]) - 1))


def is_job(order, value):
    """Whether a value is a job's name."""
    return (is_tuple_of(value, 2) and is_between(value[0], 0, len(order[0]) - 1)
            and is_between(value[1], 0, len(order[0][value[0]]) - 1))


def is_hold(order, value):
    """Whether a value has the form of a HOLD."""
    if not is_tuple_of(value, 3) or not is_between(value[1], 0, MOST_GAP) or not is_job(order, value[2]):
        return False
    return is_tuple_of(value[0], 0) or is_job(order, value[0])


def jobs_of(order):
    """The names of all jobs, ascending."""
    return [(tool, place) for tool, row in enumerate(order[0]) for place in range(len(row))]


def thing_of(order, job):
    """What stands in the ROWS as a job."""
    return order[0][job[0]][job[1]]


def in_rows(order, told):
    """What a dict tells of each job, in rows as ROWS has them."""
    return tuple([tuple([told[(tool, place)] for place in range(len(row))]) for tool, row in enumerate(order[0])])


def step_of(task, order, job):
    """The step of a job, None of a wash."""
    thing = thing_of(order, job)
    return task[1][thing[1]][0][thing[2]] if thing[0] == "step" else None


def jobs_of_step(order, sample, step):
    """The jobs by which a step is told, ascending."""
    return [job for job in jobs_of(order) if thing_of(order, job) == ("step", sample, step)]


def gaps_of(task, order):
    """The LINKS of an ORDER, SOUND or not: for each pair (FIRST, LATER) its GAP."""
    jobs = jobs_of(order)
    found = [((tool, place - 1), 0, (tool, place)) for tool, place in jobs if place > 0]
    for sample, row in enumerate(task[1]):
        for step in range(1, len(row[0])):
            found = found + [(first, 0, later) for first in jobs_of_step(order, sample, step - 1)
                             for later in jobs_of_step(order, sample, step)]
    gaps = {}
    for first, gap, later in found + list(order[1]):
        gaps[(first, later)] = max(gap, gaps.get((first, later), 0))
    laters = {later: True for first, later in gaps}
    for job in jobs:
        if job not in laters:
            gaps[((), job)] = 0
    return gaps


def led_from(order, gaps):
    """For each job the jobs that it is led to, ascending."""
    nexts = {job: [later for first, later in gaps if first == job] for job in jobs_of(order)}
    led = {}
    for job in nexts:
        found = {}
        ahead = list(nexts[job])
        while ahead:
            one = ahead.pop()
            if one not in found:
                found[one] = True
                ahead.extend(nexts[one])
        led[job] = tuple(sorted(found))
    return led


def fault_of(task, order):
    """The fault of a right ORDER of a right TASK, None of a SOUND one."""
    for sample, row in enumerate(task[1]):
        for step in range(len(row[0])):
            if len(jobs_of_step(order, sample, step)) != 1:
                return ("steps", sample, step)
    for job in jobs_of(order):
        step = step_of(task, order, job)
        if step is not None and job[0] not in step[1]:
            return ("let", job)
    led = led_from(order, gaps_of(task, order))
    if any([job in led[job] for job in led]):
        return ("ring",)
    job = state_fault(task, order)
    if job is not None:
        return ("state", job)
    pair = zones_fault(task, order, led)
    if pair is not None:
        return ("zones",) + pair
    jobs = arms_fault(task, led)
    return None if jobs is None else ("arms", jobs)


def state_fault(task, order):
    """The first job of a step whose stuff its tool may not touch by then in every state that it may be in, or None."""
    for tool, row in enumerate(order[0]):
        states = [0]
        for place, thing in enumerate(row):
            if thing[0] == "wash":
                states = sorted({behind for state in states for behind in task[0][1][thing[1]][0][state]})
                continue
            stuff = step_of(task, order, (tool, place))[0]
            states = [task[0][0][state][stuff] for state in states]
            if None in states:
                return (tool, place)
    return None


def zones_fault(task, order, led):
    """The first pair of jobs whose steps share a zone, neither being led to the other, or None."""
    steps = {job: step_of(task, order, job) for job in led}
    jobs = [job for job in led if steps[job] is not None]
    for place, job in enumerate(jobs):
        for other in jobs[place + 1:]:
            if share_zone(steps[job], steps[other]) and are_unled(led, job, other):
                return (job, other)
    return None


def arms_fault(task, led):
    """The first ascending tuple of one job more than there are arms, no one of which is led to another, or None."""
    found = [()]
    for _ in range(task[0][3] + 1):
        found = [jobs + (job,) for jobs in found for job in led
                 if (jobs == () or job > jobs[-1]) and all([are_unled(led, one, job) for one in jobs])]
    return found[0] if found else None


def are_unled(led, job, other):
    """Whether neither of two jobs is led to the other one."""
    return other not in led[job] and job not in led[other]
