"""DUES and claims: which samples are to be done within how many ticks, and whether that can be kept."""

from washedarms.errors import BadDues, BadLateness, BadMove, BadNumber
from washedarms.forms import need_standing, waiting_counts
from washedarms.moves import is_move_here, moves_here
from washedarms.plain import is_between, is_tuple_of
from washedarms.ranks import ranks_to, worth_of
from washedarms.standings import broken_here
from washedarms.tasks import need_task
from washedarms.ticks import is_lateness_here, standing_behind, ticks_from
from washedarms.webs import web_from

MOST_DUE = 60


def dues_fault(task, standing, value):
    """None for DUES; -1 for no tuple with as many things as samples; otherwise the place of the first wrong thing."""
    need_standing(task, standing)
    if not is_tuple_of(value, len(task[1])):
        return -1
    for sample, due in enumerate(value):
        asked = not sample_done(task, standing, sample) and is_between(due, 1, MOST_DUE)
        if not asked and not is_between(due, -1, -1):
            return sample
    return None


def need_dues(task, standing, dues):
    """The DUES themselves, if they are right."""
    place = dues_fault(task, standing, dues)
    if place is not None:
        raise BadDues(place)
    return dues


def freed_task(task, dues):
    """The FREED TASK."""
    need_task(task)
    samples = [(sample[0], (None,) * len(sample[0])) if due == -1 else sample for sample, due in zip(task[1], dues)]
    return (task[0], tuple(samples))


def freed(task, standing, dues):
    """The pair of the FREED TASK and the freed STANDING."""
    need_dues(task, standing, dues)
    game = freed_task(task, dues)
    return (game, freed_standing(game, standing))


def after_claim(task, standing, dues, move, late):
    """The claim, FREED first, one tick later; None if it is lost."""
    game, here = freed(task, standing, dues)
    if broken_here(game, here):
        return None
    if not is_move_here(game, here, move):
        raise BadMove(move)
    if not is_lateness_here(game, here, move, late):
        raise BadLateness(late)
    return claim_behind(game, dues, standing_behind(game, here, move, late))


def can_be_kept(task, standing, dues):
    """Whether a claim can be kept."""
    game, here = freed(task, standing, dues)
    if broken_here(game, here):
        return False
    claims, rows, ranks = kept_web(game, here, dues)
    return ranks[0] is not None


def keeping_moves(task, standing, dues):
    """All MOVES each of whose LATENESSES leads to a claim that can be kept, in order."""
    game, here = freed(task, standing, dues)
    if broken_here(game, here):
        return ()
    if is_kept(dues):
        return moves_here(game, here)
    claims, rows, ranks = kept_web(game, here, dues)
    return tuple([move for move, ends in rows[0] if worth_of(ranks, ends) is not None])


def least_due(task, standing, dues, sample):
    """The LEAST DUE of a sample beside the DUES of the others, None if there is none."""
    need_dues(task, standing, dues)
    if not is_between(sample, 0, len(task[1]) - 1) or sample_done(task, standing, sample):
        raise BadNumber(sample)
    # Its windows are asked, as with any DUE, but nothing is taken from a DUE of its own.
    game = freed_task(task, dues[:sample] + (MOST_DUE,) + dues[sample + 1:])
    here = freed_standing(game, standing)
    if broken_here(game, here):
        return None
    least = goal_ticks(game, (here, dues[:sample] + (-1,) + dues[sample + 1:]), sample)
    return None if least is None or least > MOST_DUE else least


def sample_done(task, standing, sample):
    """Whether all steps of a sample are done."""
    return standing[0][sample][0] == len(task[1][sample][0])


def freed_standing(game, standing):
    """A STANDING with WAITED 0 wherever waiting doesn't count in the FREED TASK."""
    rests = [rest if waiting_counts(sample, rest[0]) else (rest[0], 0) for sample, rest in zip(game[1], standing[0])]
    return (tuple(rests), standing[1])


def is_kept(dues):
    """Whether nothing is asked."""
    return all([due == -1 for due in dues])


def due_behind(game, standing, sample, due):
    """What becomes of a DUE by a tick that leads to a STANDING."""
    return -1 if due == -1 or sample_done(game, standing, sample) else due - 1


def claim_behind(game, dues, standing):
    """The claim behind a tick that leads from DUES to a STANDING of the FREED TASK, None if it is lost."""
    behind = tuple([due_behind(game, standing, sample, due) for sample, due in enumerate(dues)])
    if 0 in behind or broken_here(game, standing):
        return None
    return (standing, behind)


def claim_ticks(game, known, claim):
    """What ticks_from tells of the STANDING of a claim, with claims in place of STANDINGS.

    One STANDING comes with many DUES, so what is known of it is kept.
    """
    standing, dues = claim
    if standing not in known:
        known[standing] = ticks_from(game, standing)
    return [(move, [(late, claim_behind(game, dues, behind)) for late, behind in ends])
            for move, ends in known[standing]]


def kept_web(game, standing, dues):
    """The web of a claim of right freed things that isn't broken; a claim with a RANK in it can be kept."""
    known = {}
    claims, rows = web_from((standing, dues),
                            lambda claim: [] if is_kept(claim[1]) else claim_ticks(game, known, claim))
    ranks = ranks_to(rows, [place for place, claim in enumerate(claims) if is_kept(claim[1])])
    return (claims, rows, ranks)


def goal_ticks(game, first, sample):
    """Within how many ticks a sample of which no DUE is told is surely done while a claim is kept, or None."""
    known = {}
    claims, rows = web_from(first,
                            lambda claim: [] if is_goal(game, claim, sample) else claim_ticks(game, known, claim))
    goals = [place for place, claim in enumerate(claims) if is_goal(game, claim, sample)]
    kept = ranks_to(rows, goals)
    # Once the sample is done it matters only that the others can still be kept, not within how many ticks.
    reached = [place for place, claim in enumerate(claims)
               if sample_done(game, claim[0], sample) and kept[place] is not None]
    return ranks_to(rows, reached)[0]


def is_goal(game, claim, sample):
    """Whether a claim is kept and has the sample done."""
    return is_kept(claim[1]) and sample_done(game, claim[0], sample)
