"""RUNS that are played row by row."""

from washedarms.errors import BadRun
from washedarms.forms import need_standing
from washedarms.moves import is_move_here
from washedarms.plain import is_tuple_of
from washedarms.standings import broken_here
from washedarms.ticks import is_lateness_here, standing_behind


def played(task, standing, run):
    """All STANDINGS of a RUN, from the first one on."""
    need_standing(task, standing)
    if type(run) is not tuple:
        raise BadRun(None, "form")
    found = [standing]
    for index, row in enumerate(run):
        why = row_word(task, standing, row)
        if why is not None:
            raise BadRun(index, why)
        standing = standing_behind(task, standing, row[0], row[1])
        found.append(standing)
    return tuple(found)


def row_word(task, standing, row):
    """The word for a row that can't be played at a STANDING, None if it can."""
    if not is_tuple_of(row, 2):
        return "form"
    if broken_here(task, standing):
        return "broken"
    if not is_move_here(task, standing, row[0]):
        return "move"
    if not is_lateness_here(task, standing, row[0], row[1]):
        return "lateness"
    return None
