"""CORNERS: the greatest CHANGES of two WHATS together."""

from washedarms.errors import BadWhat
from washedarms.slack import bound_of, change_here, need_ticks, need_what, slack_here
from washedarms.tasks import need_task


def corners(task, what, other, ticks):
    """The CORNERS of two WHATS for so many ticks, ascending."""
    need_task(task)
    need_what(task, what)
    need_what(task, other)
    if other == what:
        raise BadWhat(other)
    need_ticks(ticks)
    greatest = []
    for many in range(bound_of(task, what) + 1):
        slack = slack_here(change_here(task, what, many), other, ticks)
        if slack is None:
            break
        greatest.append(slack)
    # Greater CHANGES of the one leave no more to the other one: a step down of the stairs is a CORNER.
    return tuple([(many, slack) for many, slack in enumerate(greatest)
                  if greatest[many + 1:many + 2] != [slack]])
