"""The MOVES at a STANDING."""

from washedarms.errors import Broken
from washedarms.forms import may_do, need_standing
from washedarms.plain import is_tuple_of
from washedarms.standings import broken_here, use_here
from washedarms.tasks import next_step


def moves_of(task, standing):
    """All MOVES at a STANDING, in order."""
    need_unbroken(task, standing)
    return moves_here(task, standing)


def is_move(task, standing, move):
    """Whether a value is a MOVE at a STANDING."""
    need_unbroken(task, standing)
    return is_move_here(task, standing, move)


def need_unbroken(task, standing):
    """Refuse what is no STANDING of a TASK, or one that is broken."""
    need_standing(task, standing)
    if broken_here(task, standing):
        raise Broken()


def moves_here(task, standing):
    """All MOVES at a right STANDING that isn't broken, in order."""
    jobs, on, zones = use_here(task, standing)
    moves = [()]
    for tool in range(task[0][2]):
        starts = [begin for begin in starts_of(task, standing, tool)
                  if begin[1] == "wash" or (begin[2] not in on and fits_zones(task, standing, zones, begin))]
        moves = moves + [move + (begin,) for move in moves for begin in starts
                         if jobs + len(move) < task[0][3] and goes_with(task, standing, move, begin)]
    return tuple(sorted(moves))


def is_move_here(task, standing, value):
    """Whether a value is a MOVE at a right STANDING that isn't broken."""
    # The kinds are looked at first, as True would be equal to 1.
    if type(value) is not tuple or not all([is_start(begin) for begin in value]):
        return False
    return value in moves_here(task, standing)


def is_start(value):
    """Whether a value is a triple of an integer, a string and an integer."""
    return (is_tuple_of(value, 3) and type(value[0]) is int and type(value[1]) is str
            and type(value[2]) is int)


def starts_of(task, standing, tool):
    """The STARTS of a tool by itself, whatever else runs."""
    state, job = standing[1][tool]
    if job != ():
        return []
    starts = []
    for sample in range(len(task[1])):
        step = next_step(task, standing, sample)
        if step is not None and may_do(task[0], step, tool, state):
            starts = starts + [(tool, "step", sample)]
    return starts + [(tool, "wash", wash) for wash in range(len(task[0][1]))]


def fits_zones(task, standing, zones, begin):
    """Whether the START of a step uses none of these zones."""
    return not any([zone in zones for zone in next_step(task, standing, begin[2])[2]])


def goes_with(task, standing, move, begin):
    """Whether a START can stand in a MOVE beside these ones of other tools."""
    if begin[1] == "wash":
        return True
    others = [other[2] for other in move if other[1] == "step"]
    zones = [zone for other in others for zone in next_step(task, standing, other)[2]]
    return begin[2] not in others and fits_zones(task, standing, zones, begin)
