"""Tasks without order in which it is enough to deal the samples to the tools."""

from washedarms.courses import washing_table
from washedarms.errors import BadDealing, NotEven
from washedarms.labs import stuff_count
from washedarms.plain import is_tuple_of
from washedarms.tasks import need_task


def dealing_late(task, dealing):
    """By what a DEALING is LATE."""
    need_even(task)
    if not is_dealing(task, dealing):
        raise BadDealing(dealing)
    return lateness_by(task, dealing)


def least_dealing(task):
    """The least number by which a DEALING is LATE and the least such DEALING, None if there is no such number."""
    need_even(task)
    rows = [(lateness_by(task, dealing), dealing) for dealing in all_dealings(task)]
    return min([row for row in rows if row[0] is not None], default=None)


def need_even(task):
    """Refuse what is no TASK, or none that is EVEN."""
    need_task(task)
    if not is_even(task):
        raise NotEven()


def is_even(task):
    """Whether a TASK is EVEN."""
    lab, samples = task
    if lab[3] != 1 and lab[3] < lab[2]:
        return False
    if any([len(sample[0]) > 1 for sample in samples]):
        return False
    steps = [step for sample in samples for step in sample[0]]
    if any([step[2] != () for step in steps]):
        return False
    sure = all([len(results) == 1 for wash in lab[1] for results in wash[0]])
    return sure or all([len(step[1]) == 1 for step in steps])


def tools_for(sample):
    """The tools that a DEALING may tell for a sample of an EVEN TASK."""
    return sample[0][0][1] if sample[0] else (-1,)


def is_dealing(task, value):
    """Whether a value is a DEALING of an EVEN TASK."""
    return is_tuple_of(value, len(task[1])) and all([type(tool) is int and tool in tools_for(task[1][number])
                                                     for number, tool in enumerate(value)])


def all_dealings(task):
    """All DEALINGS of an EVEN TASK, ascending."""
    rows = [()]
    for sample in task[1]:
        rows = [row + (tool,) for row in rows for tool in tools_for(sample)]
    return rows


def lateness_by(task, dealing):
    """By what a right DEALING is LATE."""
    loads = [load_of(task, dealing, tool) for tool in range(task[0][2])]
    if None in loads:
        return None
    return max(loads) if task[0][3] >= task[0][2] else sum(loads)


def load_of(task, dealing, tool):
    """The LOAD of a tool by a DEALING, None if its washing never surely ends."""
    steps = [task[1][number][0][0] for number, dealt in enumerate(dealing) if dealt == tool]
    lot = tuple([len([step for step in steps if step[0] == stuff]) for stuff in range(stuff_count(task[0]))])
    ticks = washing_table(task[0], lot)[(0, lot)]
    return None if ticks is None else ticks + sum([step[4] for step in steps])
