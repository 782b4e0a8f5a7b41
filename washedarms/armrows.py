"""ARM ROWS: which arm serves which jobs of a SOUND ORDER, one after another."""

from washedarms.links import are_unled, gaps_of, is_job, jobs_of, led_from, need_sound
from washedarms.plain import ascends
from washedarms.plainlots import fewest_chains


def arm_rows(task, order):
    """ARM ROWS, as few as there can be."""
    need_sound(task, order)
    return fewest_chains(led_from(order, gaps_of(task, order)))


def is_arm_rows(task, order, paper):
    """Whether a value is ARM ROWS."""
    need_sound(task, order)
    if type(paper) is not tuple or len(paper) > task[0][3]:
        return False
    if not all([type(row) is tuple and row != () and are_jobs(order, row) for row in paper]):
        return False
    led = led_from(order, gaps_of(task, order))
    return (ascends(paper) and sorted([job for row in paper for job in row]) == jobs_of(order)
            and all([row[place + 1] in led[row[place]] for row in paper for place in range(len(row) - 1)]))


def is_unled(task, order, jobs):
    """Whether a value is an ascending tuple of jobs no one of which is led to another."""
    need_sound(task, order)
    if type(jobs) is not tuple or not are_jobs(order, jobs) or not ascends(jobs):
        return False
    led = led_from(order, gaps_of(task, order))
    return all([are_unled(led, job, other) for job in jobs for other in jobs])


def are_jobs(order, values):
    """Whether all of the values are names of jobs."""
    return all([is_job(order, value) for value in values])
