"""HISTORIES of plan papers: all that may come until all is done, by numbers."""

from washedarms.errors import BadHistory, BadNumber, NoRow, TooGreat
from washedarms.forms import need_standing
from washedarms.plain import is_between
from washedarms.planchecks import need_plan
from washedarms.standings import done_here
from washedarms.ticks import is_lateness_here, standing_behind, ticks_here
from washedarms.trims import by_rank, plan_behind, rows_of

MOST_RANK = 400


def ends(task, standing, paper):
    """Ascending pairs of a number of LATENESSES and of how many HISTORIES have as many."""
    rows = need_histories(task, standing, paper)
    tables = {}
    # What a row leads to has a lesser RANK, so it is counted ahead of the row.
    for row in by_rank(paper):
        table = {}
        for behind in plan_behind(task, row):
            for ticks, many in tables.get(behind, {0: 1}).items():
                table[ticks + 1] = table.get(ticks + 1, 0) + many
        tables[row[0]] = table
    told = tables[standing] if standing in rows else {0: 1}
    return tuple([(ticks, told[ticks]) for ticks in sorted(told)])


def history_of(task, standing, paper, number):
    """The HISTORY with this number."""
    rows = need_histories(task, standing, paper)
    counts = history_counts(task, paper)
    if not is_between(number, 0, counts.get(standing, 1) - 1):
        raise BadNumber(number)
    history = []
    while standing in rows:
        for late, behind in ticks_here(task, standing, rows[standing][1]):
            many = counts.get(behind, 1)
            if number < many:
                break
            number = number - many
        history.append(late)
        standing = behind
    return tuple(history)


def number_of(task, standing, paper, history):
    """The number of a HISTORY, None of a value that is none."""
    rows = need_histories(task, standing, paper)
    found = standings_by(task, standing, rows, history)
    if found is None:
        return None
    counts = history_counts(task, paper)
    number = 0
    for one, told in zip(found, history):
        lesser = [behind for late, behind in ticks_here(task, one, rows[one][1]) if late < told]
        number = number + sum([counts.get(behind, 1) for behind in lesser])
    return number


def led(task, standing, paper, history):
    """The STANDINGS that come by a HISTORY, the first one ahead of all."""
    rows = need_histories(task, standing, paper)
    found = standings_by(task, standing, rows, history)
    if found is None:
        raise BadHistory(history)
    return tuple(found)


def need_histories(task, standing, paper):
    """The rows of a plan paper by their STANDINGS, if its HISTORIES at a STANDING can be told."""
    need_standing(task, standing)
    rows = rows_of(need_plan(task, paper))
    if any([row[2] > MOST_RANK for row in paper]):
        raise TooGreat(MOST_RANK)
    if standing not in rows and not done_here(task, standing):
        raise NoRow(standing)
    return rows


def history_counts(task, paper):
    """For each STANDING of a plan paper how many HISTORIES there are; a done STANDING has just one."""
    counts = {}
    for row in by_rank(paper):
        counts[row[0]] = sum([counts.get(behind, 1) for behind in plan_behind(task, row)])
    return counts


def standings_by(task, standing, rows, history):
    """The STANDINGS that come by a value, None if it is no HISTORY."""
    if type(history) is not tuple:
        return None
    found = [standing]
    for late in history:
        if standing not in rows or not is_lateness_here(task, standing, rows[standing][1], late):
            return None
        standing = standing_behind(task, standing, rows[standing][1], late)
        found.append(standing)
    return found if standing not in rows else None
