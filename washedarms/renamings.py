"""RENAMINGS of samples and tools, and what they make of STANDINGS, MOVES and LATENESSES."""

from washedarms.errors import BadLateness, BadRenaming
from washedarms.forms import need_standing
from washedarms.plain import is_permutation, is_tuple_of
from washedarms.tasks import need_task
from washedarms.ticks import is_lateness_here, need_move


def is_renaming(task, value):
    """Whether a value is a RENAMING of a TASK."""
    need_task(task)
    return (is_tuple_of(value, 2) and is_permutation(value[0], len(task[1]))
            and is_permutation(value[1], task[0][2]))


def renamed_task(task, renaming):
    """The renamed TASK."""
    need_renaming(task, renaming)
    return task_by(task, renaming)


def renamed_standing(task, standing, renaming):
    """The renamed STANDING."""
    need_standing(task, standing)
    need_renaming(task, renaming)
    return standing_by(standing, renaming)


def renamed_move(task, standing, move, renaming):
    """The renamed MOVE."""
    need_move(task, standing, move)
    need_renaming(task, renaming)
    return move_by(move, renaming)


def renamed_lateness(task, standing, move, lateness, renaming):
    """The renamed LATENESS of a MOVE."""
    need_move(task, standing, move)
    if not is_lateness_here(task, standing, move, lateness):
        raise BadLateness(lateness)
    need_renaming(task, renaming)
    return tuple(sorted([(renaming[1][tool], state) for tool, state in lateness]))


def joined_renaming(task, renaming, other):
    """The RENAMING that renames by the first one and then by the other one."""
    need_renaming(task, renaming)
    need_renaming(task, other)
    samples = [other[0][number] for number in renaming[0]]
    return (tuple(samples), tuple([other[1][number] for number in renaming[1]]))


def undone_renaming(task, renaming):
    """The RENAMING that takes a RENAMING back."""
    need_renaming(task, renaming)
    return tuple([tuple([numbers.index(number) for number in range(len(numbers))]) for numbers in renaming])


def need_renaming(task, renaming):
    """Refuse what is no TASK, or no RENAMING of it."""
    if not is_renaming(task, renaming):
        raise BadRenaming()


def task_by(task, renaming):
    """The renamed TASK of right things."""
    samples = [(tuple([renamed_step(step, renaming) for step in steps]), windows) for steps, windows in task[1]]
    return (task[0], moved(samples, renaming[0]))


def standing_by(standing, renaming):
    """The renamed STANDING of right things."""
    return (moved(standing[0], renaming[0]), tools_by(standing[1], renaming))


def tools_by(pairs, renaming):
    """The renamed second thing of a right STANDING."""
    return moved([(state, renamed_job(job, renaming)) for state, job in pairs], renaming[1])


def move_by(move, renaming):
    """The renamed MOVE of right things."""
    return tuple(sorted([(renaming[1][begin[0]],) + renamed_job(begin[1:], renaming) for begin in move]))


def moved(things, numbers):
    """Things at their new numbers."""
    return tuple([things[numbers.index(number)] for number in range(len(numbers))])


def renamed_step(step, renaming):
    """A step with the new numbers of its tools."""
    return (step[0], tuple(sorted([renaming[1][tool] for tool in step[1]]))) + step[2:]


def renamed_job(job, renaming):
    """A JOB, or a START without its tool, with the new number of its sample."""
    if job[:1] != ("step",):
        return job
    return job[:1] + (renaming[0][job[1]],) + job[2:]
