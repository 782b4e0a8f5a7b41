"""Papers on plans are judged here, and what all papers have in common is looked at."""

from washedarms.errors import BadPaper, BadTicks, TooGreat
from washedarms.forms import need_standing, stands
from washedarms.moves import is_move_here
from washedarms.plain import is_from, is_tuple_of
from washedarms.standings import done_here
from washedarms.tasks import need_task
from washedarms.ticks import ticks_here
from washedarms.webs import live_here

MOST_ROWS = 20000


def plan_fault(task, paper):
    """None of a plan paper, otherwise the index and the word of its first fault."""
    need_task(task)
    fault = plan_own_fault(task, paper)
    return plan_answer_fault(task, paper) if fault is None else fault


def is_live_plan(task, standing, ticks, paper):
    """Whether a value is a LIVE PLAN for a STANDING and so many ticks."""
    need_standing(task, standing)
    if not is_from(ticks, 0):
        raise BadTicks(ticks)
    if plan_fault(task, paper) is not None:
        return False
    return done_here(task, standing) or any([row[0] == standing and row[2] <= ticks for row in paper])


def need_plan(task, paper):
    """The plan paper itself, if it is one of a right TASK."""
    fault = plan_fault(task, paper)
    if fault is not None:
        raise BadPaper("plan", fault[0], fault[1])
    return paper


def own_fault(game, paper, keys, is_row, is_over):
    """The first fault that a paper has as a whole, or that a row has by itself; None if there is none.

    So many things at the head of a row, its keys, ascend from row to row; is_row and is_over tell of the game and
    a row whether it has its form, and whether nothing goes on from its keys.
    """
    if type(paper) is not tuple:
        return (None, "form")
    if len(paper) > MOST_ROWS:
        raise TooGreat(MOST_ROWS)
    ahead = None
    for index, row in enumerate(paper):
        if not is_row(game, row):
            return (index, "form")
        if ahead is not None and row[:keys] <= ahead:
            return (index, "order")
        if is_over(game, row):
            return (index, "over")
        ahead = row[:keys]
    return None


def need_own(name, fault):
    """Refuse a paper that has a fault as a whole, or in a row by itself."""
    if fault is not None:
        raise BadPaper(name, fault[0], fault[1])


def plan_own_fault(task, paper):
    """The first fault of a plan paper by itself, whatever its MOVES lead to."""
    return own_fault(task, paper, 1, is_plan_row, is_over_row)


def is_plan_row(task, value):
    """Whether a value has the form of a row of a plan paper."""
    if not is_tuple_of(value, 3) or not stands(task, value[0]):
        return False
    if type(value[1]) is not tuple or not is_from(value[2], 1):
        return False
    return not live_here(task, value[0]) or is_move_here(task, value[0], value[1])


def is_over_row(task, row):
    """Whether the STANDING of a row is done or broken."""
    return not live_here(task, row[0])


def plan_answer_fault(task, paper):
    """The first fault of a plan paper whose rows are right by themselves."""
    ranks = ranks_told(paper)
    for index, row in enumerate(paper):
        if not all([leads_down(task, ranks, row[2], behind) for late, behind in ticks_here(task, row[0], row[1])]):
            return (index, "answer")
    return None


def ranks_told(paper):
    """For each STANDING of a plan paper its RANK."""
    return {row[0]: row[2] for row in paper}


def leads_down(task, ranks, rank, behind):
    """Whether a STANDING is done, or has a row of lesser RANK."""
    return done_here(task, behind) or (behind in ranks and ranks[behind] < rank)
