"""TABLES OF LATENESS: papers by which no plan is done in time."""

from washedarms.errors import BadTicks
from washedarms.forms import need_standing
from washedarms.plain import is_between
from washedarms.ranks import ranked_web
from washedarms.standings import broken_here


def lateness_table(task, standing, ticks):
    """The TABLE told for a STANDING and so many ticks, None standing for ever; None if there is none."""
    need_standing(task, standing)
    if ticks is not None and not is_between(ticks, 0, 10 ** 6):
        raise BadTicks(ticks)
    nodes, rows, ranks = ranked_web(task, standing)
    if ranks[0] is not None and (ticks is None or ranks[0] <= ticks):
        return None
    found = {}
    ahead = [0]
    while ahead:
        place = ahead.pop()
        if place not in found and not broken_here(task, nodes[place]):
            left = None if ranks[place] is None else ranks[place] - 1
            ends = [] if left == 0 else [late_end(ranks, told, left) for move, told in rows[place]]
            found[place] = (left, tuple([late for late, behind in ends]))
            ahead.extend([behind for late, behind in ends])
    return tuple(sorted([(nodes[place],) + found[place] for place in found]))


def late_end(ranks, ends, left):
    """The first of the ENDS of a MOVE that leads to what is broken, or to a RANK of at least LEFT; None is greatest."""
    return [end for end in ends if ranks[end[1]] is None or (left is not None and ranks[end[1]] >= left)][0]
