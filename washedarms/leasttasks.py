"""The least TINY TASKS of which a WISH is so, and how their SOONEST are spread."""

from washedarms.errors import BadNumber, BadWish, TooGreat
from washedarms.forms import start
from washedarms.plain import is_between
from washedarms.ranks import ranked_web, worth_of
from washedarms.taskchanges import is_sooner, start_soonest, with_arm, with_lows_high, with_tool
from washedarms.tasks import need_task
from washedarms.tinytasks import choices_of, count_here, need_shape, need_tiny, picks_of, task_here

MOST_TASKS = 200


def tiny_number(shape, task):
    """The number of a TINY TASK of this SHAPE, None of another TASK."""
    need_shape(shape)
    need_task(task)
    if len(task[0][1]) != 1:
        return None
    number = 0
    for pick, choices in zip(picks_of(task), choices_of(shape)):
        if pick not in choices:
            return None
        number = number * len(choices) + choices.index(pick)
    # A TASK of another SHAPE may have its choices among these: it isn't what comes of them.
    return number if task_here(shape, number) == task else None


def least_task(shape, wish, first, many):
    """The least number of so many, from the first on, of a TINY TASK of which a WISH is so; None if there is none."""
    need_wish(shape, wish, first)
    if not is_between(many, 1, MOST_TASKS):
        raise BadNumber(many)
    for number in range(first, min(first + many, count_here(shape))):
        if is_so(task_here(shape, number), wish):
            return number
    return None


def is_least_task(shape, wish, first, number):
    """Whether a WISH is so of the TINY TASK with this number, and of none ahead of it from the first on."""
    need_wish(shape, wish, first)
    if not is_between(number, first, min(first + MOST_TASKS, count_here(shape)) - 1):
        raise BadNumber(number)
    if not is_so(task_here(shape, number), wish):
        return False
    for earlier in range(first, number):
        if is_so(task_here(shape, earlier), wish):
            return False
    return True


def tiny_spread(shape):
    """For how many TINY TASKS SOONEST is 0, 1 and so on, and then for how many there is none."""
    need_shape(shape)
    many = count_here(shape)
    if many > MOST_TASKS:
        raise TooGreat(MOST_TASKS)
    found = [start_soonest(task_here(shape, number)) for number in range(many)]
    most = max([ticks for ticks in found if ticks is not None], default=-1)
    return tuple([found.count(ticks) for ticks in range(most + 1)] + [found.count(None)])


def need_wish(shape, wish, first):
    """Refuse what is no SHAPE, no WISH, or no number of a TINY TASK of the SHAPE."""
    need_shape(shape)
    if type(wish) is not str or wish not in WISHES:
        raise BadWish(wish)
    need_tiny(shape, first)


def is_so(task, wish):
    """Whether a WISH is so of a TINY TASK."""
    call = WISHES[wish]
    return call(task)


def is_never(task):
    """Whether there is no SOONEST."""
    return start_soonest(task) is None


def is_unsure(task):
    """Whether with LOW put up to HIGH in each job SOONEST is sooner."""
    return is_sooner(start_soonest(with_lows_high(task)), start_soonest(task))


def wants_arm(task):
    """Whether with an arm more SOONEST is sooner."""
    return is_sooner(start_soonest(with_arm(task)), start_soonest(task))


def wants_tool(task):
    """Whether with a tool more SOONEST is sooner."""
    return is_sooner(start_soonest(with_tool(task)), start_soonest(task))


def waits(task):
    """Whether () is the only best MOVE somewhere where there are others."""
    return any([best == [()] and len(moves) > 1 for moves, best in best_rows(task)])


def washes(task):
    """Whether each best MOVE begins a wash somewhere where a single step could be begun alone."""
    return any([all([has_wash(move) for move in best]) and any([is_one_step(move) for move in moves])
                for moves, best in best_rows(task)])


def has_wash(move):
    """Whether a MOVE has a START of a wash."""
    return any([begin[1] == "wash" for begin in move])


def is_one_step(move):
    """Whether a MOVE has just one START, that of a step."""
    return len(move) == 1 and move[0][1] == "step"


def best_rows(task):
    """The pairs of all MOVES and the best ones at each live standing that comes from the START by best MOVES."""
    nodes, rows, ranks = ranked_web(task, start(task))
    if ranks[0] is None:
        return []
    found = {}
    ahead = [0]
    while ahead:
        place = ahead.pop()
        if ranks[place] == 0 or place in found:
            continue
        best = [told for told in rows[place] if worth_of(ranks, told[1]) == ranks[place]]
        found[place] = ([move for move, ends in rows[place]], [move for move, ends in best])
        ahead.extend([behind for move, ends in best for late, behind in ends])
    return list(found.values())


WISHES = {"never": is_never, "unsure": is_unsure, "arm": wants_arm, "spare": wants_tool, "wait": waits, "wash": washes}
