"""What can be told of a STANDING at a glance."""

from washedarms.errors import BadNumber
from washedarms.forms import most_waited, need_standing, waiting_counts
from washedarms.plain import is_between
from washedarms.tasks import next_step


def is_done(task, standing):
    """Whether all steps of all samples are done."""
    need_standing(task, standing)
    return done_here(task, standing)


def is_broken(task, standing):
    """Whether some sample waits longer than its window."""
    need_standing(task, standing)
    return broken_here(task, standing)


def is_live(task, standing):
    """Whether a STANDING is neither done nor broken."""
    need_standing(task, standing)
    return not done_here(task, standing) and not broken_here(task, standing)


def window_of(task, standing, sample):
    """The window of a sample that isn't on, None if it has none or is on."""
    need_standing(task, standing)
    if not is_between(sample, 0, len(task[1]) - 1):
        raise BadNumber(sample)
    done = standing[0][sample][0]
    if sample in samples_on(standing) or not waiting_counts(task[1][sample], done):
        return None
    return task[1][sample][1][done]


def in_use(task, standing):
    """How many jobs run, which samples are on, and which zones running steps use."""
    need_standing(task, standing)
    return use_here(task, standing)


def done_here(task, standing):
    """Whether a right STANDING is done."""
    return all([rest[0] == len(sample[0]) for sample, rest in zip(task[1], standing[0])])


def broken_here(task, standing):
    """Whether a right STANDING is broken."""
    return any([waiting_counts(sample, rest[0]) and rest[1] == most_waited(sample, rest[0])
                for sample, rest in zip(task[1], standing[0])])


def samples_on(standing):
    """The samples that are on in a right STANDING, ascending."""
    return tuple(sorted([job[1] for state, job in standing[1] if job[:1] == ("step",)]))


def use_here(task, standing):
    """What in_use tells of a right STANDING."""
    jobs = len([job for state, job in standing[1] if len(job) == 3])
    on = samples_on(standing)
    zones = [zone for sample in on for zone in next_step(task, standing, sample)[2]]
    return (jobs, on, tuple(sorted(zones)))
