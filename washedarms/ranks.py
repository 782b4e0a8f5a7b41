"""RANKS of standings: within how many ticks all is surely done, and by which MOVES."""

from washedarms.errors import BadMove, BadStanding
from washedarms.forms import need_standing
from washedarms.moves import is_move_here
from washedarms.standings import done_here
from washedarms.webs import live_here, standing_web


def soonest(task, standing):
    """SOONEST of a STANDING, None if there is none."""
    need_standing(task, standing)
    nodes, rows, ranks = ranked_web(task, standing)
    return ranks[0]


def rank_row(task, standing):
    """The pairs of a standing and its RANK, or None, of all of the WEB, in its order."""
    need_standing(task, standing)
    nodes, rows, ranks = ranked_web(task, standing)
    return tuple([(node, ranks[place]) for place, node in enumerate(nodes)])


def move_worth(task, standing, move):
    """The WORTH of a MOVE at a live STANDING, None if it doesn't surely lead on."""
    need_standing(task, standing)
    if not live_here(task, standing):
        raise BadStanding("over", ())
    if not is_move_here(task, standing, move):
        raise BadMove(move)
    nodes, rows, ranks = ranked_web(task, standing)
    return [worth_of(ranks, ends) for other, ends in rows[0] if other == move][0]


def best_moves(task, standing):
    """The best MOVES of a STANDING, in order; () if it is done or has no RANK."""
    need_standing(task, standing)
    nodes, rows, ranks = ranked_web(task, standing)
    if ranks[0] is None:
        return ()
    return tuple([move for move, ends in rows[0] if worth_of(ranks, ends) == ranks[0]])


def ranked_web(task, standing):
    """The WEB of right things, as web_from tells it, and the RANKS of its standings."""
    nodes, rows = standing_web(task, standing)
    done = [place for place, node in enumerate(nodes) if done_here(task, node)]
    return (nodes, rows, ranks_to(rows, done))


def ranks_to(rows, goals):
    """For each place of a web the least number of ticks by which some MOVES surely lead to goals, or None."""
    ranks = [None for _ in rows]
    owners, missing, users = move_tables(rows)
    for place in goals:
        ranks[place] = 0
    turn = goals
    rank = 0
    while turn:
        rank += 1
        reached = []
        for place in turn:
            for number in users[place]:
                missing[number] -= 1
                if missing[number] == 0 and ranks[owners[number]] is None:
                    ranks[owners[number]] = rank
                    reached.append(owners[number])
        turn = reached
    return ranks


def move_tables(rows):
    """All MOVES of a web numbered: the place of each, how many LATENESSES it has, and by place those leading there."""
    owners = []
    missing = []
    users = [[] for _ in rows]
    for place, moves in enumerate(rows):
        for move, ends in moves:
            for late, behind in ends:
                # What is lost never comes to a goal, so its MOVE always misses it.
                if behind is not None:
                    users[behind].append(len(owners))
            owners.append(place)
            missing.append(len(ends))
    return (owners, missing, users)


def worth_of(ranks, ends):
    """One more than the greatest RANK to which the LATENESSES of a MOVE lead, None if one leads to none."""
    found = [None if behind is None else ranks[behind] for late, behind in ends]
    return None if None in found else 1 + max(found)
