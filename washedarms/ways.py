"""WAYS to jobs of SOUND ORDERS, and the ticks at which jobs begin.

Of a SOUND ORDER the LINKS are known by a dict that tells for each job the GAP
of each FIRST; its jobs stand in such an order that each one is behind all that
are led to it.
"""

from washedarms.errors import BadFate, BadNumber, TooGreat
from washedarms.links import gaps_of, in_rows, is_job, jobs_of, led_from, need_sound, step_of, thing_of
from washedarms.plain import is_between, is_tuple_of

MOST_WAYS = 2000


def way_count(task, order, job):
    """How many WAYS to a job there are."""
    need_sound(task, order)
    need_job(order, job)
    return way_counts(links_in_turn(task, order))[job]


def ways_to(task, order, job):
    """All WAYS to a job, ascending."""
    need_sound(task, order)
    need_job(order, job)
    return tuple(all_ways(links_in_turn(task, order), job))


def begins(task, order, fate):
    """The ticks at which the jobs begin by a FATE, and those at which they end, both in rows."""
    need_sound(task, order)
    need_fate(task, order, fate)
    ticks = fate_ticks(order, fate)
    begun = begun_by(links_in_turn(task, order), ticks)
    return (in_rows(order, begun), in_rows(order, {job: begun[job] + ticks[job] for job in begun}))


def need_job(order, job):
    """Refuse what is no job's name."""
    if not is_job(order, job):
        raise BadNumber(job)


def need_fate(task, order, fate):
    """Refuse what is no FATE of a SOUND ORDER."""
    if not has_rows(order, fate):
        raise BadFate(None)
    for tool, row in enumerate(order[0]):
        state = 0
        for place in range(len(row)):
            low, high, behind = span_of(task, order, (tool, place), state)
            told = fate[tool][place]
            if not (is_tuple_of(told, 2) and is_between(told[0], low, high)
                    and is_between(told[1], 0, len(behind) - 1)):
                raise BadFate((tool, place))
            state = behind[told[1]]


def has_rows(order, value):
    """Whether a value is in rows as ROWS has them."""
    return is_tuple_of(value, len(order[0])) and all([is_tuple_of(told, len(row))
                                                      for told, row in zip(value, order[0])])


def span_of(task, order, job, state):
    """LOW and HIGH of a job, and the states that it may leave when it begins in this state."""
    step = step_of(task, order, job)
    if step is not None:
        return (step[3], step[4], (task[0][0][state][step[0]],))
    after, low, high = task[0][1][thing_of(order, job)[1]]
    return (low, high, after[state])


def lows_and_highs(task, order):
    """For each job the pair of its LOW and HIGH."""
    # LOW and HIGH are the same from each state; 0 is one that any laboratory has.
    return {job: span_of(task, order, job, 0)[:2] for job in jobs_of(order)}


def fate_ticks(order, fate):
    """The TICKS of each job by a FATE."""
    return {(tool, place): fate[tool][place][0] for tool, place in jobs_of(order)}


def links_in_turn(task, order):
    """For each job of a SOUND ORDER, behind all that are led to it: for each FIRST the GAP."""
    gaps = gaps_of(task, order)
    led = led_from(order, gaps)
    ahead = {job: len([one for one in led if job in led[one]]) for job in led}
    links = {job: {} for job in sorted(led, key=lambda one: ahead[one])}
    for first, later in gaps:
        links[later][first] = gaps[(first, later)]
    return links


def way_counts(links):
    """For each job how many WAYS to it there are."""
    counts = {(): 1}
    for job in links:
        counts[job] = sum([counts[first] for first in links[job]])
    return counts


def all_ways(links, job):
    """All WAYS to a job, ascending."""
    if way_counts(links)[job] > MOST_WAYS:
        raise TooGreat(MOST_WAYS)
    # Rows of LINKS are followed from the job back to the start.
    found = []
    ahead = [(job,)]
    while ahead:
        row = ahead.pop()
        for first in links[row[0]]:
            if first == ():
                found.append(row[:-1])
            else:
                ahead.append((first,) + row)
    return sorted(found)


def begun_by(links, ticks):
    """The tick at which each job begins, when the ticks of each are told."""
    begun = {}
    for job in links:
        begun[job] = max([gap if first == () else begun[first] + ticks[first] + gap
                          for first, gap in links[job].items()])
    return begun


def is_way(order, links, job, value):
    """Whether a value is a WAY to a job."""
    if type(value) is not tuple or not all([is_job(order, one) for one in value]):
        return False
    row = ((),) + value + (job,)
    return all([row[place] in links[row[place + 1]] for place in range(len(row) - 1)])


def is_end_way(order, links, job, value):
    """Whether a value is a WAY to the end of a job: a WAY to it with the job behind."""
    if type(value) is not tuple or value == () or not is_job(order, value[-1]):
        return False
    return value[-1] == job and is_way(order, links, job, value[:-1])


def way_gaps(links, job, way):
    """The sum of the GAPS of a WAY to a job."""
    row = ((),) + way + (job,)
    return sum([links[row[place + 1]][row[place]] for place in range(len(row) - 1)])
