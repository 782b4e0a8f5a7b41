"""The WORST WAIT of a step by a SOUND ORDER, and papers that it is kept or broken.

The least RISE of a WAY P and a WAY Q is the SPAN of P less the greatest SPAN
of a Q, both by the FATE with HIGH for the jobs of P and LOW for all others: so
no pairs of WAYS need be gone through.
"""

from washedarms.errors import BadNumber, BadStep
from washedarms.links import jobs_of_step, need_sound
from washedarms.plain import ascends, is_between, is_from, is_tuple_of
from washedarms.ways import all_ways, begun_by, is_end_way, is_way, links_in_turn, lows_and_highs, way_counts, way_gaps


def worst_wait(task, order, sample, step):
    """The pair of the WORST WAIT of a step and the first WAY whose least RISE it is."""
    need_sound(task, order)
    need_later_step(task, sample, step)
    return worst_of(task, order, sample, step)


def keeping_paper(task, order, sample, step, window):
    """The KEEPING PAPER told for a window, None if there is none."""
    need_window(task, order, sample, step, window)
    if worst_of(task, order, sample, step)[0] > window:
        return None
    links, spans = links_in_turn(task, order), lows_and_highs(task, order)
    ahead, job = two_jobs(order, sample, step)
    return tuple([(way, first_longest(links, ticks_by(spans, way), ahead)) for way in all_ways(links, job)])


def breaking_paper(task, order, sample, step, window):
    """The BREAKING PAPER told for a window, None if the WORST WAIT keeps it."""
    need_window(task, order, sample, step, window)
    worst, way = worst_of(task, order, sample, step)
    return None if worst <= window else way


def is_keeping(task, order, sample, step, window, paper):
    """Whether a value is a KEEPING PAPER for a window."""
    need_window(task, order, sample, step, window)
    links, spans = links_in_turn(task, order), lows_and_highs(task, order)
    ahead, job = two_jobs(order, sample, step)
    if type(paper) is not tuple or len(paper) != way_counts(links)[job]:
        return False
    if not all([is_tuple_of(pair, 2) and is_way(order, links, job, pair[0])
                and is_end_way(order, links, ahead, pair[1]) for pair in paper]):
        return False
    # As many unlike WAYS as there are in all are all of them.
    return ascends([pair[0] for pair in paper]) and all([rise_of(links, spans, job, ahead, pair[0], pair[1]) <= window
                                                         for pair in paper])


def is_breaking(task, order, sample, step, window, paper):
    """Whether a value is a BREAKING PAPER for a window."""
    need_window(task, order, sample, step, window)
    links, spans = links_in_turn(task, order), lows_and_highs(task, order)
    ahead, job = two_jobs(order, sample, step)
    if not is_way(order, links, job, paper):
        return False
    ticks = ticks_by(spans, paper)
    begun = begun_by(links, ticks)
    return begun[job] - begun[ahead] - ticks[ahead] > window


def need_later_step(task, sample, step):
    """Refuse what is no step that has a step ahead of it."""
    if not is_between(sample, 0, len(task[1]) - 1) or not is_between(step, 1, len(task[1][sample][0]) - 1):
        raise BadStep((sample, step))


def need_window(task, order, sample, step, window):
    """Refuse what is no step with a step ahead of it in a SOUND ORDER, or no window."""
    need_sound(task, order)
    need_later_step(task, sample, step)
    if not is_from(window, 0):
        raise BadNumber(window)


def two_jobs(order, sample, step):
    """The jobs of the step ahead and of the step."""
    return (jobs_of_step(order, sample, step - 1)[0], jobs_of_step(order, sample, step)[0])


def ticks_by(spans, way):
    """The ticks of all jobs, HIGH of those of a WAY and LOW of all others."""
    return {job: high if job in way else low for job, (low, high) in spans.items()}


def worst_of(task, order, sample, step):
    """What worst_wait tells of right things."""
    links, spans = links_in_turn(task, order), lows_and_highs(task, order)
    ahead, job = two_jobs(order, sample, step)
    worst = None
    for way in all_ways(links, job):
        ticks = ticks_by(spans, way)
        rise = (way_gaps(links, job, way) + sum([ticks[one] for one in way])
                - begun_by(links, ticks)[ahead] - ticks[ahead])
        if worst is None or rise > worst[0]:
            worst = (rise, way)
    return worst


def rise_of(links, spans, job, ahead, way, other):
    """The RISE of a WAY to a job and another WAY to the end of the job ahead."""
    gaps = way_gaps(links, job, way) - way_gaps(links, ahead, other[:-1])
    highs = sum([spans[one][1] for one in way if one not in other])
    return gaps + highs - sum([spans[one][0] for one in other if one not in way])


def first_longest(links, ticks, target):
    """The first one, ascending, of the WAYS to the end of a job that have the greatest SPAN."""
    # Of each job that is led to the target: the greatest SPAN from its beginning to the end of the target.
    tails = {target: ticks[target]}
    for job in list(links)[::-1]:
        found = [gap + tails[later] for later, gap in links_on(links, job) if later in tails]
        if found:
            tails[job] = ticks[job] + max(found)
    way = []
    one = ()
    while one != target:
        span, one = min([(-gap - tails[later], later) for later, gap in links_on(links, one) if later in tails])
        way.append(one)
    return tuple(way)


def links_on(links, job):
    """The pairs of a later job and the GAP, of all LINKS that go from a job, or from the start."""
    return [(later, links[later][job]) for later in links if job in links[later]]
