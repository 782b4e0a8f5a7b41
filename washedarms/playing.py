"""ORDERS played as RUNS, and RUNS read as ORDERS."""

from washedarms.errors import BadHistory, BadRun, TooGreat
from washedarms.forms import start
from washedarms.links import MOST_GAP, MOST_JOBS, jobs_of, need_sound, step_of, thing_of
from washedarms.runs import played
from washedarms.standings import done_here
from washedarms.tasks import need_task
from washedarms.ways import begun_by, fate_ticks, links_in_turn, need_fate, span_of


def play(task, order, fate):
    """The PLAY of a SOUND ORDER by a FATE."""
    need_sound(task, order)
    need_fate(task, order, fate)
    ticks = fate_ticks(order, fate)
    begun = begun_by(links_in_turn(task, order), ticks)
    states = states_left(task, order, fate)
    last = max([begun[job] + ticks[job] for job in begun if step_of(task, order, job) is not None], default=0)
    moves = [[] for _ in range(last)]
    lates = [[] for _ in range(last)]
    # Jobs are taken in ascending order, so the tools of each row ascend. What begins or ends behind the last step
    # is left out: it can only be a wash.
    for job in sorted(begun):
        if begun[job] < last:
            moves[begun[job]].append((job[0],) + thing_of(order, job)[:2])
        if begun[job] + ticks[job] <= last:
            lates[begun[job] + ticks[job] - 1].append((job[0], states[job]))
    return tuple([(tuple(move), tuple(late)) for move, late in zip(moves, lates)])


def order_of(task, history):
    """The ORDER OF a RUN from the START that ends done."""
    need_task(task)
    try:
        found = played(task, start(task), history)
    except BadRun:
        raise BadHistory(history) from None
    if not done_here(task, found[-1]) or any([done_here(task, standing) for standing in found[:-1]]):
        raise BadHistory(history)
    spans = ended_spans(task, history, found)
    if len(spans) > MOST_JOBS:
        raise TooGreat(MOST_JOBS)
    if any([span[0] > MOST_GAP for span in spans.values()]):
        raise TooGreat(MOST_GAP)
    rows = [tuple([spans[job][2] for job in sorted(spans) if job[0] == tool]) for tool in range(task[0][2])]
    holds = [((), spans[job][0], job) for job in spans]
    for first in spans:
        holds = holds + [(first, 0, later) for later in spans if are_next(spans, first, later)]
    return (tuple(rows), tuple(sorted(holds)))


def states_left(task, order, fate):
    """The state that each job leaves by a FATE."""
    left = {}
    for tool, place in jobs_of(order):
        state = 0 if place == 0 else left[(tool, place - 1)]
        left[(tool, place)] = span_of(task, order, (tool, place), state)[2][fate[tool][place][1]]
    return left


def ended_spans(task, history, found):
    """For each job that ended in a RUN: how many ticks were over when it began and when it had ended, and its thing."""
    running = {}
    counts = [0 for _ in range(task[0][2])]
    spans = {}
    for index, (move, late) in enumerate(history):
        for tool, word, which in move:
            thing = (word, which, found[index][0][which][0]) if word == "step" else (word, which)
            running[tool] = (index, thing)
        for tool, state in late:
            begun, thing = running[tool]
            spans[(tool, counts[tool])] = (begun, index + 1, thing)
            counts[tool] += 1
    return spans


def are_next(spans, first, later):
    """Whether a job ended no later than another one began, and no third one lies between."""
    end, begun = spans[first][1], spans[later][0]
    return end <= begun and not any([spans[job][0] >= end and spans[job][1] <= begun for job in spans])
