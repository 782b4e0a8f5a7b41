"""Two papers made into one."""

from washedarms.planchecks import need_plan
from washedarms.tablechecks import is_enough, need_table
from washedarms.tasks import need_task


def joined_plans(task, paper, other):
    """The rows of two plan papers, of a STANDING that has two the one of lesser RANK."""
    need_task(task)
    rows = {row[0]: row for row in need_plan(task, paper)}
    for row in need_plan(task, other):
        if row[0] not in rows or row[2] < rows[row[0]][2]:
            rows[row[0]] = row
    return tuple([rows[standing] for standing in sorted(rows)])


def joined_tables(task, paper, other):
    """The rows of two table papers, of a STANDING that has two the one of greater LEFT."""
    need_task(task)
    rows = {row[0]: row for row in need_table(task, paper)}
    for row in need_table(task, other):
        if row[0] not in rows or not is_enough(rows[row[0]][1], row[1]):
            rows[row[0]] = row
    return tuple([rows[standing] for standing in sorted(rows)])
