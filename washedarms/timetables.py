"""TIMETABLES of SOUND ORDERS, and RINGS of CONDITIONS, by which there is none."""

from washedarms.errors import BadPaper, TooGreat
from washedarms.links import MOST_GAP, gaps_of, in_rows, is_job, jobs_of, jobs_of_step, need_sound
from washedarms.plain import is_from, is_worded
from washedarms.ways import has_rows, lows_and_highs


def least_timetable(task, order):
    """The least TIMETABLE, None if there is none."""
    need_sound(task, order)
    ticks, ring = settled(task, order)
    return None if ticks is None else in_rows(order, ticks)


def ring_of(task, order):
    """Some RING, None if there is none."""
    need_sound(task, order)
    ticks, ring = settled(task, order)
    return ring


def is_timetable(task, order, paper):
    """Whether a value is a TIMETABLE."""
    need_sound(task, order)
    return is_table(task, order, paper)


def is_ring(task, order, paper):
    """Whether a value is a RING."""
    need_sound(task, order)
    added = conditions_of(task, order)
    if type(paper) is not tuple or paper == () or not all([is_condition(order, added, one) for one in paper]):
        return False
    nexts = paper[1:] + paper[:1]
    return (all([one[2] == other[1] for one, other in zip(paper, nexts)])
            and sum([added[one] for one in paper]) > 0)


def held_order(task, order, paper):
    """The ORDER HELD at a TIMETABLE."""
    need_sound(task, order)
    if not is_table(task, order, paper):
        raise BadPaper("timetable", None, "form")
    if any([tick > MOST_GAP for row in paper for tick in row]):
        raise TooGreat(MOST_GAP)
    holds = [hold for hold in order[1] if hold[0] != ()]
    holds = holds + [((), paper[tool][place], (tool, place)) for tool, place in jobs_of(order)]
    return (order[0], tuple(sorted(holds)))


def conditions_of(task, order):
    """For each CONDITION the number that it adds."""
    spans = lows_and_highs(task, order)
    gaps = gaps_of(task, order)
    added = {("link", first, later): spans[first][1] + gaps[(first, later)] for first, later in gaps if first != ()}
    for sample, row in enumerate(task[1]):
        for step, window in enumerate(row[1]):
            if window is not None:
                first, later = jobs_of_step(order, sample, step - 1)[0], jobs_of_step(order, sample, step)[0]
                added[("window", later, first)] = -spans[first][0] - window
    return added


def start_gaps(task, order):
    """For each job the GAP from the start to it, 0 if there is none."""
    gaps = gaps_of(task, order)
    return {job: gaps.get(((), job), 0) for job in jobs_of(order)}


def is_table(task, order, value):
    """Whether a value is a TIMETABLE of a SOUND ORDER."""
    if not has_rows(order, value) or not all([is_from(tick, 0) for row in value for tick in row]):
        return False
    gaps = start_gaps(task, order)
    if any([value[tool][place] < gaps[(tool, place)] for tool, place in gaps]):
        return False
    added = conditions_of(task, order)
    ticks = {(tool, place): value[tool][place] for tool, place in gaps}
    return all([ticks[last] >= ticks[first] + added[(word, first, last)] for word, first, last in added])


def is_condition(order, added, value):
    """Whether a value is one of the CONDITIONS."""
    if not is_worded(value, "link", 3) and not is_worded(value, "window", 3):
        return False
    return is_job(order, value[1]) and is_job(order, value[2]) and value in added


def settled(task, order):
    """The least ticks that keep all CONDITIONS and None, or None and a RING.

    Each turn puts ticks up to what the CONDITIONS ask. Without a RING no tick
    is put up by more CONDITIONS in a row than there are other jobs.
    """
    added = conditions_of(task, order)
    ticks = start_gaps(task, order)
    turns = len(ticks) + 1
    causes = {}
    last = None
    for _ in range(turns):
        last = None
        for condition in added:
            word, first, later = condition
            if ticks[later] < ticks[first] + added[condition]:
                ticks[later] = ticks[first] + added[condition]
                causes[later] = condition
                last = later
        if last is None:
            return (ticks, None)
    return (None, ring_behind(causes, last))


def ring_behind(causes, job):
    """The RING to which the CONDITIONS lead back that put up the ticks, last that of this job."""
    for _ in range(len(causes)):
        job = causes[job][1]
    ring = [causes[job]]
    while ring[-1][1] != job:
        ring.append(causes[ring[-1][1]])
    return tuple(ring[::-1])
