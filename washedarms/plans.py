"""LIVE PLANS, and the worst that may come by them."""

from washedarms.forms import need_standing
from washedarms.ranks import ranked_web, worth_of


def live_plan(task, standing):
    """The PLAN told: () of a done STANDING, None without a RANK."""
    need_standing(task, standing)
    nodes, rows, ranks = ranked_web(task, standing)
    return plan_of_web(nodes, rows, ranks)


def worst_course(task, standing):
    """The pairs of a MOVE and a LATENESS by which the PLAN takes all its ticks, None without a RANK."""
    need_standing(task, standing)
    nodes, rows, ranks = ranked_web(task, standing)
    if ranks[0] is None:
        return None
    course = []
    place = 0
    while ranks[place] > 0:
        move, ends = first_best(rows[place], ranks, ranks[place])
        late, place = [end for end in ends if ranks[end[1]] == ranks[place] - 1][0]
        course.append((move, late))
    return tuple(course)


def plan_of_web(nodes, rows, ranks):
    """The PLAN told from the first node of a web, None without a RANK."""
    if ranks[0] is None:
        return None
    found = {}
    ahead = [0]
    while ahead:
        place = ahead.pop()
        if ranks[place] > 0 and place not in found:
            move, ends = first_best(rows[place], ranks, ranks[place])
            found[place] = move
            ahead.extend([behind for late, behind in ends])
    return tuple(sorted([(nodes[place], found[place], ranks[place]) for place in found]))


def first_best(moves, ranks, rank):
    """The first of the MOVES of a live place with a RANK that is best, with its ENDS."""
    return [told for told in moves if worth_of(ranks, told[1]) == rank][0]
