"""FREE ROWS: what one tool can touch one after another without a wash."""

from washedarms.errors import BadRow
from washedarms.labs import need_lab, need_state, stuff_count
from washedarms.plain import is_between


def row_end(lab, state, stuffs):
    """The state that a FREE ROW leads to, None if the stuffs are no FREE ROW."""
    return row_walk(lab, state, stuffs)[0]


def row_stop(lab, state, stuffs):
    """The place of the first stuff for which the state isn't ready, None of a FREE ROW."""
    return row_walk(lab, state, stuffs)[1]


def row_walk(lab, state, stuffs):
    """The pair of the state behind a FREE ROW and None, or of None and the place at which it stops."""
    need_lab(lab)
    need_state(lab, state)
    if not is_stuff_row(lab, stuffs):
        raise BadRow(stuffs)
    for place, stuff in enumerate(stuffs):
        state = lab[0][state][stuff]
        if state is None:
            return (None, place)
    return (state, None)


def is_stuff_row(lab, value):
    """Whether a value is a tuple of stuffs."""
    most = stuff_count(lab) - 1
    return type(value) is tuple and all([is_between(stuff, 0, most) for stuff in value])
