"""What a STANDING of a TASK is, and what is wrong with a value that is none."""

from washedarms.errors import BadStanding
from washedarms.plain import is_between, is_tuple_of, is_worded
from washedarms.tasks import need_task


def standing_fault(task, value):
    """The fault of a value as a STANDING of the TASK, None if it is one."""
    return fault_here(need_task(task), value)


def is_standing(task, value):
    """Whether a value is a STANDING of the TASK."""
    return standing_fault(task, value) is None


def need_standing(task, value):
    """The STANDING itself, if the value is one of the TASK."""
    fault = standing_fault(task, value)
    if fault is not None:
        raise BadStanding(fault[0], fault[1])
    return value


def start(task):
    """The START of a TASK."""
    return (((0, 0),) * len(task[1]), ((0, ()),) * task[0][2])


def positions(sample):
    """The POSITIONS of a SAMPLE, ascending."""
    rows = []
    for done in range(len(sample[0]) + 1):
        rows = rows + [(done, waited) for waited in range(most_waited(sample, done) + 1)]
    return tuple(rows)


def waiting_counts(sample, done):
    """Whether WAITED of a SAMPLE that isn't on counts when so many of its steps are done."""
    return 1 <= done < len(sample[0]) and sample[1][done] is not None


def most_waited(sample, done):
    """The greatest WAITED that a SAMPLE may have when so many of its steps are done."""
    return sample[1][done] + 1 if waiting_counts(sample, done) else 0


def fault_here(task, value):
    """The fault of a value as a STANDING of a right TASK, None if it is one."""
    if not is_tuple_of(value, 2):
        return ("standing", ())
    place = rests_place(task, value[0])
    if place is not None:
        return ("samples", (0,) + place)
    place = tools_place(task, value[0], value[1])
    return None if place is None else ("tools", (1,) + place)


def stands(task, value):
    """Whether a value is a STANDING of a right TASK."""
    return fault_here(task, value) is None


def rests_place(task, rests):
    """The place of the first wrong thing in the first thing of a STANDING, None if nothing is wrong."""
    samples = task[1]
    if not is_tuple_of(rests, len(samples)):
        return ()
    for number, sample in enumerate(samples):
        if not is_tuple_of(rests[number], 2):
            return (number,)
        done, waited = rests[number]
        if not is_between(done, 0, len(sample[0])):
            return (number, 0)
        if not is_between(waited, 0, most_waited(sample, done)):
            return (number, 1)
    return None


def tools_place(task, rests, pairs):
    """The place of the first wrong thing in the second thing of a STANDING, None if nothing is wrong."""
    if not is_tuple_of(pairs, task[0][2]):
        return ()
    for tool, pair in enumerate(pairs):
        if not is_tuple_of(pair, 2):
            return (tool,)
        state, job = pair
        if not is_between(state, 0, len(task[0][0]) - 1):
            return (tool, 0)
        if not is_right_job(task, rests, pairs[:tool], state, job):
            return (tool, 1)
    return None


def is_right_job(task, rests, ahead, state, job):
    """Whether a value is a JOB of the tool behind those of ahead, when its STATE is this one."""
    if type(job) is not tuple:
        return False
    if not job or (len(job) == 1 and type(job[0]) is str and job[0] == "out"):
        return True
    if len([pair for pair in ahead if len(pair[1]) == 3]) >= task[0][3]:
        return False
    if is_worded(job, "step", 3):
        return is_right_step(task, rests, ahead, state, job)
    return is_worded(job, "wash", 3) and is_right_wash(task[0][1], job)


def is_right_wash(washes, job):
    """Whether a tuple of "wash" and two things is a JOB."""
    return is_between(job[1], 0, len(washes) - 1) and is_between(job[2], 1, washes[job[1]][2] - 1)


def is_right_step(task, rests, ahead, state, job):
    """Whether a tuple of "step" and two things is a JOB of the tool behind those of ahead."""
    if not is_between(job[1], 0, len(task[1]) - 1):
        return False
    step = step_to_run(task, rests, job[1])
    if step is None or not may_do(task[0], step, len(ahead), state):
        return False
    others = [pair[1][1] for pair in ahead if pair[1][:1] == ("step",)]
    if job[1] in others:
        return False
    if any([share_zone(step, step_to_run(task, rests, other)) for other in others]):
        return False
    return is_between(job[2], 1, step[4] - 1)


def step_to_run(task, rests, sample):
    """The step of the sample that a JOB may be of, None if there is none."""
    steps = task[1][sample][0]
    done, waited = rests[sample]
    return steps[done] if done < len(steps) and waited == 0 else None


def may_do(lab, step, tool, state):
    """Whether the step lets the tool, and a tool in this state may touch the step's stuff."""
    return tool in step[1] and lab[0][state][step[0]] is not None


def share_zone(step, other):
    """Whether two steps use a zone in common."""
    return any([zone in other[2] for zone in step[2]])


def pairs_for(task, samples, ahead):
    """All pairs (STATE, JOB), ascending, that are right for the tool behind those of ahead."""
    jobs = some_jobs(task)
    rows = []
    for state in range(len(task[0][0])):
        rows = rows + [(state, job) for job in jobs if is_right_job(task, samples, ahead, state, job)]
    return tuple(rows)


def some_jobs(task):
    """All JOBS that any tool may have in any STANDING of the TASK, and some more, ascending."""
    jobs = [(), ("out",)]
    for sample, row in enumerate(task[1]):
        most = max([step[4] for step in row[0]], default=1)
        jobs = jobs + [("step", sample, gone) for gone in range(1, most)]
    for number, wash in enumerate(task[0][1]):
        jobs = jobs + [("wash", number, gone) for gone in range(1, wash[2])]
    return jobs
