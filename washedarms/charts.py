"""CHARTS of RUNS from the START, and RUNS of CHARTS."""

from washedarms.chartchecks import chart_fault, sample_bars, tool_bars
from washedarms.errors import BadChart
from washedarms.forms import start, waiting_counts
from washedarms.runs import played
from washedarms.tasks import need_task


def chart_of(task, run):
    """The CHART of a RUN from the START."""
    need_task(task)
    played(task, start(task), run)
    bars = []
    running = {}
    for index, (move, lateness) in enumerate(run):
        for begin in move:
            running[begin[0]] = (index,) + begin
        for tool, state in lateness:
            bars.append(running.pop(tool) + (index + 1, state))
    bars = bars + [running[tool] + (-1, -1) for tool in running]
    return tuple(sorted(bars))


def standing_of_chart(task, ticks, chart):
    """The last STANDING of the RUN that has this CHART."""
    need_chart(task, ticks, chart)
    rests = [rest_of_bars(sample, ticks, sample_bars(chart, number)) for number, sample in enumerate(task[1])]
    pairs = [pair_of_bars(ticks, tool_bars(chart, tool)) for tool in range(task[0][2])]
    return (tuple(rests), tuple(pairs))


def run_of_chart(task, ticks, chart):
    """The RUN that has this CHART."""
    need_chart(task, ticks, chart)
    moves = [[] for _ in range(ticks)]
    latenesses = [[] for _ in range(ticks)]
    for begin, tool, word, which, end, state in chart:
        moves[begin].append((tool, word, which))
        if end != -1:
            latenesses[end - 1].append((tool, state))
    return tuple([(tuple(sorted(move)), tuple(sorted(lateness))) for move, lateness in zip(moves, latenesses)])


def need_chart(task, ticks, chart):
    """Refuse what is no CHART of the TASK for so many TICKS."""
    why = chart_fault(task, ticks, chart)
    if why != "":
        raise BadChart(why)


def rest_of_bars(sample, ticks, bars):
    """The pair (DONE, WAITED) of a sample, read off its BARS."""
    ends = [bar[4] for bar in bars if bar[4] != -1]
    done = len(ends)
    waits = done == len(bars) and waiting_counts(sample, done)
    return (done, ticks - ends[-1] if waits else 0)


def pair_of_bars(ticks, bars):
    """The pair (STATE, JOB) of a tool, read off its BARS."""
    states = [0] + [bar[5] for bar in bars if bar[4] != -1]
    if bars and bars[-1][4] == -1:
        return (states[-1], bars[-1][2:4] + (ticks - bars[-1][0],))
    return (states[-1], ())
