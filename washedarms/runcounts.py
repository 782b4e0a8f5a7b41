"""RUNS by their numbers, without listing them.

STANDINGS are known here by their places in the order in which they are met,
as one of them can stand behind many numbers of ticks.
"""

from washedarms.errors import BadNumber, BadTicks, TooGreat
from washedarms.forms import need_standing
from washedarms.plain import is_between
from washedarms.runs import played
from washedarms.standings import broken_here
from washedarms.ticks import ticks_from
from washedarms.webs import MOST_NODES, place_of

MOST_TICKS = 60


def run_count(task, standing, ticks):
    """How many RUNS of so many rows can be played from a STANDING."""
    need_standing(task, standing)
    need_row_count(ticks)
    rows, counts = run_tables(task, standing, ticks)
    return counts[ticks][0]


def run_at(task, standing, ticks, number):
    """The RUN of so many rows with this number."""
    need_standing(task, standing)
    need_row_count(ticks)
    rows, counts = run_tables(task, standing, ticks)
    if not is_between(number, 0, counts[ticks][0] - 1):
        raise BadNumber(number)
    run = []
    place = 0
    for left in range(ticks - 1, -1, -1):
        for row, behind in rows[place]:
            if number < counts[left][behind]:
                run.append(row)
                place = behind
                break
            number = number - counts[left][behind]
    return tuple(run)


def number_of_run(task, standing, run):
    """The number of a RUN among those with as many rows."""
    played(task, standing, run)
    need_row_count(len(run))
    rows, counts = run_tables(task, standing, len(run))
    number = 0
    place = 0
    for index, told in enumerate(run):
        left = counts[len(run) - index - 1]
        number = number + sum([left[behind] for row, behind in rows[place] if row < told])
        place = [behind for row, behind in rows[place] if row == told][0]
    return number


def need_row_count(ticks):
    """Refuse what is no number of rows that is counted."""
    if not is_between(ticks, 0, MOST_TICKS):
        raise BadTicks(ticks)


def run_tables(task, standing, ticks):
    """The rows that can be played at each place, and by numbers of rows left, how many RUNS there are from each."""
    nodes = [standing]
    places = {standing: 0}
    rows = {}
    layers = [[0]]
    pairs = 1
    for _ in range(ticks):
        layer = {}
        for place in layers[-1]:
            if place not in rows:
                rows[place] = [(row, place_of(nodes, places, behind)) for row, behind in rows_on(task, nodes[place])]
            for row, behind in rows[place]:
                layer[behind] = True
        pairs += len(layer)
        if pairs > MOST_NODES:
            raise TooGreat(MOST_NODES)
        layers.append(list(layer))
    counts = [{place: 1 for place in layers[-1]}]
    for layer in layers[-2::-1]:
        left = counts[-1]
        counts.append({place: sum([left[behind] for row, behind in rows[place]]) for place in layer})
    return (rows, counts)


def rows_on(task, standing):
    """All pairs of a row that can be played at a right STANDING, in order, and the STANDING to which it leads."""
    if broken_here(task, standing):
        return []
    return [((move, late), behind) for move, ends in ticks_from(task, standing) for late, behind in ends]
