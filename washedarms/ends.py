"""The WORST END of a SOUND ORDER, papers that it is kept, and whether all windows are."""

from washedarms.errors import BadTicks
from washedarms.links import in_rows, jobs_of, need_sound, step_of
from washedarms.plain import is_from
from washedarms.waits import worst_of
from washedarms.ways import begun_by, has_rows, links_in_turn, lows_and_highs


def worst_end(task, order):
    """The WORST END."""
    need_sound(task, order)
    latest = latest_ends(task, order)
    return max([latest[job] for job in step_jobs(task, order)], default=0)


def end_paper(task, order):
    """The least integers that keep the LINKS, in rows."""
    need_sound(task, order)
    return in_rows(order, latest_ends(task, order))


def is_end_paper(task, order, ticks, paper):
    """Whether a value is an END PAPER for so many ticks."""
    need_sound(task, order)
    if not is_from(ticks, 0):
        raise BadTicks(ticks)
    if not has_rows(order, paper) or not all([type(told) is int for row in paper for told in row]):
        return False
    links, spans = links_in_turn(task, order), lows_and_highs(task, order)
    told = {(tool, place): paper[tool][place] for tool, place in jobs_of(order)}
    for later in links:
        for first, gap in links[later].items():
            ahead = 0 if first == () else told[first]
            if told[later] < ahead + gap + spans[later][1]:
                return False
    return all([told[job] <= ticks for job in step_jobs(task, order)])


def keeps_windows(task, order):
    """Whether the WORST WAIT of each step that has a window is at most the window."""
    need_sound(task, order)
    for sample, row in enumerate(task[1]):
        for step, window in enumerate(row[1]):
            if window is not None and worst_of(task, order, sample, step)[0] > window:
                return False
    return True


def step_jobs(task, order):
    """The jobs of steps, ascending."""
    return [job for job in jobs_of(order) if step_of(task, order, job) is not None]


def latest_ends(task, order):
    """The greatest tick at which each job ends by any FATE."""
    highs = {job: span[1] for job, span in lows_and_highs(task, order).items()}
    begun = begun_by(links_in_turn(task, order), highs)
    return {job: begun[job] + highs[job] for job in highs}
