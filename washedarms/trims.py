"""Least parts of papers, least RANKS and greatest numbers."""

from washedarms.errors import NoRow
from washedarms.forms import need_standing
from washedarms.planchecks import need_plan
from washedarms.standings import broken_here, done_here
from washedarms.tablechecks import answer_pairs, need_table
from washedarms.tasks import need_task
from washedarms.ticks import ticks_here


def trimmed_plan(task, standing, paper):
    """The rows of a plan paper that come from a STANDING, ascending."""
    need_standing(task, standing)
    rows = rows_of(need_plan(task, paper))
    if done_here(task, standing):
        return ()
    need_row(rows, standing)
    return rows_from(rows, standing, lambda row: plan_behind(task, row))


def trimmed_table(task, standing, paper):
    """The rows of a table paper that come from a STANDING by the ANSWERS, ascending."""
    need_standing(task, standing)
    rows = rows_of(need_table(task, paper))
    if broken_here(task, standing):
        return ()
    need_row(rows, standing)
    return rows_from(rows, standing, lambda row: table_behind(task, row))


def tight_plan(task, paper):
    """A plan paper with the least RANKS."""
    need_task(task)
    ranks = {}
    # What a row leads to has a lesser RANK, so it is told its least one ahead of the row.
    for row in by_rank(need_plan(task, paper)):
        ranks[row[0]] = 1 + max([ranks[behind] for behind in plan_behind(task, row) if behind in ranks], default=0)
    return tuple([row[:2] + (ranks[row[0]],) for row in paper])


def loose_table(task, paper):
    """A table paper with the greatest LEFTS."""
    need_task(task)
    need_table(task, paper)
    users = {row[0]: [] for row in paper}
    for row in paper:
        for behind in table_behind(task, row):
            if behind in users:
                users[behind].append(row[0])
    lefts = {row[0]: 0 for row in paper if row[2] == ()}
    turn = list(lefts)
    while turn:
        reached = []
        for standing in turn:
            for user in users[standing]:
                if user not in lefts:
                    lefts[user] = lefts[standing] + 1
                    reached.append(user)
        turn = reached
    return tuple([(row[0], lefts.get(row[0], None), row[2]) for row in paper])


def rows_of(paper):
    """For each STANDING of a paper its row."""
    return {row[0]: row for row in paper}


def need_row(rows, standing):
    """Refuse a STANDING that has no row."""
    if standing not in rows:
        raise NoRow(standing)


def by_rank(paper):
    """The rows of a plan paper, those of lesser RANK first."""
    return sorted(paper, key=lambda row: row[2])


def plan_behind(task, row):
    """The STANDINGS to which the MOVE of a row of a plan paper leads."""
    return [behind for late, behind in ticks_here(task, row[0], row[1])]


def table_behind(task, row):
    """The STANDINGS to which the ANSWERS of a row of a table paper lead."""
    return [behind for answer, behind in answer_pairs(task, row[0], row[2])]


def rows_from(rows, standing, behind_row):
    """The rows that come from a STANDING that has one, ascending; behind_row tells to what a row leads."""
    found = {}
    ahead = [standing]
    while ahead:
        one = ahead.pop()
        if one in rows and one not in found:
            found[one] = rows[one]
            ahead.extend(behind_row(rows[one]))
    return tuple([found[one] for one in sorted(found)])
