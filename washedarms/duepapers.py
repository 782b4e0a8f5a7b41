"""DUE PLANS and DUE TABLES: papers by which claims can be kept, and by which they can't."""

from washedarms.dues import freed, is_kept, kept_web
from washedarms.ranks import worth_of
from washedarms.standings import broken_here


def due_plan(task, standing, dues):
    """The DUE PLAN told: () if the claim is kept, None if there is none."""
    game, here = freed(task, standing, dues)
    if broken_here(game, here):
        return None
    claims, rows, ranks = kept_web(game, here, dues)
    if ranks[0] is None:
        return None
    found = {}
    ahead = [0]
    while ahead:
        place = ahead.pop()
        if place not in found and not is_kept(claims[place][1]):
            move, ends = [told for told in rows[place] if worth_of(ranks, told[1]) is not None][0]
            found[place] = move
            ahead.extend([behind for late, behind in ends])
    return tuple(sorted([claims[place] + (found[place],) for place in found]))


def due_table(task, standing, dues):
    """The DUE TABLE told: () if the freed STANDING is broken, None if there is none."""
    game, here = freed(task, standing, dues)
    if broken_here(game, here):
        return ()
    claims, rows, ranks = kept_web(game, here, dues)
    if ranks[0] is not None:
        return None
    found = {}
    ahead = [0]
    while ahead:
        place = ahead.pop()
        if place is not None and place not in found:
            ends = [losing_end(ranks, told) for move, told in rows[place]]
            found[place] = tuple([late for late, behind in ends])
            ahead.extend([behind for late, behind in ends])
    return tuple(sorted([claims[place] + (found[place],) for place in found]))


def losing_end(ranks, ends):
    """The first of the ENDS of a MOVE by which the claim is lost, or comes to one that can't be kept."""
    return [end for end in ends if end[1] is None or ranks[end[1]] is None][0]
