"""CHARTS are judged here without a tick."""

from washedarms.errors import BadTicks
from washedarms.forms import may_do, share_zone
from washedarms.plain import ascends, is_between, is_tuple_of
from washedarms.tasks import need_task


def chart_fault(task, ticks, chart):
    """The word of the first rule that a value breaks as a CHART for so many TICKS, or ""."""
    need_task(task)
    if not is_between(ticks, 0, 200):
        raise BadTicks(ticks)
    if type(chart) is not tuple or not all([is_bar(task, ticks, bar) for bar in chart]):
        return "form"
    # Each rule rests on those ahead of it, so the first broken one ends the look.
    if not ascends([bar[:2] for bar in chart]):
        return "order"
    if not all([follow_on(tool_bars(chart, tool)) for tool in range(task[0][2])]):
        return "tool"
    if not all([sample_holds(task, chart, sample) for sample in range(len(task[1]))]):
        return "sample"
    if not all([state_holds(task, chart, index) for index in range(len(chart))]):
        return "state"
    if not all([span_holds(task, ticks, chart, bar) for bar in chart]):
        return "span"
    if not zones_hold(task, chart):
        return "zones"
    if not all([running_at(chart, bar[0]) <= task[0][3] for bar in chart]):
        return "arms"
    if not all([windows_hold(task, ticks, chart, sample) for sample in range(len(task[1]))]):
        return "window"
    return ""


def is_bar(task, ticks, value):
    """Whether a value has the form of a BAR for so many TICKS."""
    if not is_tuple_of(value, 6) or type(value[2]) is not str or value[2] not in ("step", "wash"):
        return False
    begin, tool, word, which, end, state = value
    many = len(task[1]) if word == "step" else len(task[0][1])
    if not (is_between(begin, 0, ticks - 1) and is_between(tool, 0, task[0][2] - 1)
            and is_between(which, 0, many - 1)):
        return False
    if is_between(end, -1, -1):
        return is_between(state, -1, -1)
    return is_between(end, begin + 1, ticks) and is_between(state, 0, len(task[0][0]) - 1)


def tool_bars(chart, tool):
    """The BARS of a tool."""
    return [bar for bar in chart if bar[1] == tool]


def sample_bars(chart, sample):
    """The BARS of the steps of a sample."""
    return [bar for bar in chart if bar[2:4] == ("step", sample)]


def ends_by(bar, tick):
    """Whether a BAR has an END, at most this one."""
    return bar[4] != -1 and bar[4] <= tick


def follow_on(bars):
    """Whether of each two BARS the earlier one has an END, at most the BEGIN of the later one."""
    return all([ends_by(bars[index], bars[index + 1][0]) for index in range(len(bars) - 1)])


def sample_holds(task, chart, sample):
    """Whether the BARS of a sample keep the rule "sample"."""
    steps = task[1][sample][0]
    bars = sample_bars(chart, sample)
    if len(bars) > len(steps) or not follow_on(bars):
        return False
    return all([bar[1] in step[1] for bar, step in zip(bars, steps)])


def step_of_bar(task, chart, bar):
    """The step of which a BAR of a step is."""
    return task[1][bar[3]][0][sample_bars(chart, bar[3]).index(bar)]


def state_holds(task, chart, index):
    """Whether a BAR keeps the rule "state"."""
    bar = chart[index]
    ahead = tool_bars(chart[:index], bar[1])
    state = ahead[-1][5] if ahead else 0
    if bar[2] == "wash":
        results = task[0][1][bar[3]][0][state]
    else:
        step = step_of_bar(task, chart, bar)
        if not may_do(task[0], step, bar[1], state):
            return False
        results = (task[0][0][state][step[0]],)
    return bar[4] == -1 or bar[5] in results


def span_holds(task, ticks, chart, bar):
    """Whether a BAR keeps the rule "span"."""
    if bar[2] == "wash":
        low, high = task[0][1][bar[3]][1:]
    else:
        low, high = step_of_bar(task, chart, bar)[3:]
    if bar[4] == -1:
        return ticks - bar[0] < high
    return low <= bar[4] - bar[0] <= high


def zones_hold(task, chart):
    """Whether the BARS of steps keep the rule "zones"."""
    rows = [(bar, step_of_bar(task, chart, bar)) for bar in chart if bar[2] == "step"]
    for index, (bar, step) in enumerate(rows):
        for other, other_step in rows[:index]:
            if share_zone(step, other_step) and not ends_by(other, bar[0]):
                return False
    return True


def running_at(chart, tick):
    """How many BARS run behind so many ticks."""
    return len([bar for bar in chart if bar[0] <= tick and not ends_by(bar, tick)])


def windows_hold(task, ticks, chart, sample):
    """Whether the BARS of a sample keep the rule "window"."""
    bars = sample_bars(chart, sample)
    windows = task[1][sample][1]
    for index in range(1, len(windows)):
        if windows[index] is None or index > len(bars) or bars[index - 1][4] == -1:
            continue
        end = bars[index - 1][4]
        if index < len(bars) and bars[index][0] > end + windows[index]:
            return False
        if index == len(bars) and ticks > end + windows[index] + 1:
            return False
    return True
