"""WEBS: all that comes from a STANDING, or from a claim, by MOVES and LATENESSES."""

from washedarms.errors import TooGreat
from washedarms.forms import need_standing
from washedarms.standings import broken_here, done_here
from washedarms.ticks import ticks_from

MOST_NODES = 20000
MOST_TRIPLES = 200000


def web_row(task, standing):
    """The WEB of a TASK and a STANDING."""
    need_standing(task, standing)
    nodes, rows = standing_web(task, standing)
    return tuple(nodes)


def live_here(task, standing):
    """Whether a right STANDING is live."""
    return not done_here(task, standing) and not broken_here(task, standing)


def standing_web(task, standing):
    """The WEB of right things, as web_from tells it."""
    return web_from(standing, lambda one: ticks_from(task, one) if live_here(task, one) else [])


def web_from(first, ticks_at, counts_triples=True):
    """All that comes from a first node: the nodes in the order in which they are met, and for each its MOVES.

    A MOVE is told as a pair (MOVE, ENDS), ENDS with a pair (LATENESS, PLACE) for each LATENESS: the place of the
    node to which it leads, None if that is lost. ticks_at tells the same of a node with nodes in place of places.
    Where triples aren't counted, nodes alone can be too many.
    """
    nodes = [first]
    places = {first: 0}
    rows = []
    triples = 0
    while len(rows) < len(nodes):
        ticks = ticks_at(nodes[len(rows)])
        rows.append([(move, [(late, place_of(nodes, places, node)) for late, node in ends]) for move, ends in ticks])
        triples += sum([len(ends) for move, ends in ticks])
        if len(nodes) > MOST_NODES:
            raise TooGreat(MOST_NODES)
        if counts_triples and triples > MOST_TRIPLES:
            raise TooGreat(MOST_TRIPLES)
    return (nodes, rows)


def place_of(nodes, places, node):
    """The place of a node among all that are met, where a new one is put behind them; None of None."""
    if node is None:
        return None
    if node not in places:
        places[node] = len(nodes)
        nodes.append(node)
    return places[node]
