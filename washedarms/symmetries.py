"""SYMMETRIES: the RENAMINGS that leave a TASK as it is, and the forms of STANDINGS by them."""

from washedarms.forms import need_standing
from washedarms.renamings import moved, standing_by, task_by, tools_by
from washedarms.tasks import need_task


def symmetries(task):
    """All SYMMETRIES of a TASK, ascending."""
    need_task(task)
    return symmetries_here(task)


def form_of(task, standing):
    """The form of a STANDING: the least of those that the SYMMETRIES make of it."""
    need_standing(task, standing)
    return form_by(symmetries_here(task), standing)


def alike(task, standing, other):
    """The least SYMMETRY that makes the one STANDING of the other, None if there is none."""
    need_standing(task, standing)
    need_standing(task, other)
    return symmetry_to(symmetries_here(task), standing, other)


def symmetries_here(task):
    """All SYMMETRIES of a right TASK, ascending."""
    renamings = [(samples, tools) for samples in orders_of(len(task[1])) for tools in orders_of(task[0][2])]
    return tuple([renaming for renaming in renamings if task_by(task, renaming) == task])


def orders_of(many):
    """All tuples with the numbers from 0 to one less than so many, each once, ascending."""
    rows = [()]
    for _ in range(many):
        rows = [row + (number,) for row in rows for number in range(many) if number not in row]
    return rows


def form_by(found, standing):
    """The form of a right STANDING by all these SYMMETRIES."""
    # Most SYMMETRIES make a greater first thing of it, so that their second things need not be made.
    rests = {}
    for samples, tools in found:
        if samples not in rests:
            rests[samples] = moved(standing[0], samples)
    least = min([rests[samples] for samples in rests])
    return (least, min([tools_by(standing[1], one) for one in found if rests[one[0]] == least]))


def symmetry_to(found, standing, other):
    """The first of these SYMMETRIES that makes the other one of a right STANDING, None if none does."""
    for symmetry in found:
        if standing_by(standing, symmetry) == other:
            return symmetry
    return None
