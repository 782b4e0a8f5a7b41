"""Classes of STANDINGS that are alike, and the play over their forms."""

from washedarms.comings import comings_of
from washedarms.errors import BadSymmetry
from washedarms.forms import start
from washedarms.plans import plan_of_web
from washedarms.ranks import ranks_to
from washedarms.renamings import move_by, need_renaming, standing_by
from washedarms.standings import done_here
from washedarms.symmetries import form_by, symmetries_here, symmetry_to
from washedarms.tasks import need_task
from washedarms.ticks import ticks_from, ticks_here
from washedarms.webs import live_here, web_from


def fixed_count(task, symmetry):
    """How many of the STANDINGS that come are left as they are by a SYMMETRY."""
    need_renaming(task, symmetry)
    if symmetry not in symmetries_here(task):
        raise BadSymmetry()
    return len([one for one in comings_of(task) if standing_by(one, symmetry) == one])


def classes(task):
    """The forms of all STANDINGS that come, ascending."""
    need_task(task)
    found = symmetries_here(task)
    forms = {form_by(found, one): True for one in comings_of(task)}
    return tuple(sorted(forms))


def class_ranks(task):
    """The pairs of a form that comes in the play over forms and its RANK, or None, ascending."""
    need_task(task)
    nodes, rows, ranks = ranked_forms(task)
    return tuple(sorted([(node, ranks[place]) for place, node in enumerate(nodes)], key=lambda pair: pair[0]))


def class_plan(task):
    """The rows (FORM, MOVE, RANK) of a plan over forms, ascending; None if the START has no RANK."""
    need_task(task)
    nodes, rows, ranks = ranked_forms(task)
    return plan_of_web(nodes, rows, ranks)


def spread_plan(task):
    """The LIVE PLAN that a plan over forms makes of itself, None if the START has no RANK."""
    plan = class_plan(task)
    if plan is None:
        return None
    found = symmetries_here(task)
    rows = {form: (move, rank) for form, move, rank in plan}
    spread = {}
    ahead = [start(task)]
    while ahead:
        standing = ahead.pop()
        if standing in spread or done_here(task, standing):
            continue
        form = form_by(found, standing)
        move = move_by(rows[form][0], symmetry_to(found, form, standing))
        spread[standing] = (move, rows[form][1])
        ahead.extend([behind for late, behind in ticks_here(task, standing, move)])
    return tuple(sorted([(standing,) + spread[standing] for standing in spread]))


def ranked_forms(task):
    """The play over forms of a right TASK, as web_from tells a web, and the RANKS of its forms."""
    found = symmetries_here(task)
    known = {}
    nodes, rows = web_from(start(task), lambda form: form_ticks(task, found, known, form), False)
    done = [place for place, node in enumerate(nodes) if done_here(task, node)]
    return (nodes, rows, ranks_to(rows, done))


def form_ticks(task, found, known, form):
    """What ticks_from tells of a form, with forms in place of STANDINGS; nothing of what isn't live."""
    if not live_here(task, form):
        return []
    return [(move, [(late, known_form(found, known, behind)) for late, behind in ends])
            for move, ends in ticks_from(task, form)]


def known_form(found, known, standing):
    """The form of a STANDING, which is kept, as one STANDING comes from many others."""
    if standing not in known:
        known[standing] = form_by(found, standing)
    return known[standing]

