"""LIST RUNS of OPEN TASKS: each sample's next step begins as soon as a tool and an arm are left for it."""

from washedarms.errors import BadList, BadTicks, NotOpen
from washedarms.plain import is_between, is_permutation, is_tuple_of
from washedarms.tasks import need_task


def is_open(task):
    """Whether a TASK is OPEN."""
    need_task(task)
    lab, samples = task
    if any([None in row for row in lab[0]]):
        return False
    steps = [step for sample in samples for step in sample[0]]
    if not all([len(step[1]) == lab[2] and step[2] == () for step in steps]):
        return False
    return all([window is None for sample in samples for window in sample[1]])


def list_run(task, samples, ticks):
    """The pair (END, BEGINS) of the LIST RUN by so many ticks of each step."""
    if not is_open(task):
        raise NotOpen()
    if not is_permutation(samples, len(task[1])):
        raise BadList(samples)
    if not are_step_ticks(task, ticks):
        raise BadTicks(ticks)
    most = min(task[0][2], task[0][3])
    begun = [[] for _ in samples]
    free = [0 for _ in samples]
    tick = 0
    while any([len(begun[sample]) < len(ticks[sample]) for sample in samples]):
        for sample in samples:
            running = len([end for end in free if end > tick])
            if free[sample] <= tick and len(begun[sample]) < len(ticks[sample]) and running < most:
                free[sample] = tick + ticks[sample][len(begun[sample])]
                begun[sample].append(tick)
        tick += 1
    return (max(free, default=0), tuple([tuple(row) for row in begun]))


def are_step_ticks(task, value):
    """Whether a value tells for each sample a tuple with, for each step, an integer from LOW to HIGH."""
    if not is_tuple_of(value, len(task[1])):
        return False
    for sample, told in zip(task[1], value):
        if not is_tuple_of(told, len(sample[0])):
            return False
        if not all([is_between(one, step[3], step[4]) for step, one in zip(sample[0], told)]):
            return False
    return True
