"""FREE ROWS by their numbers."""

from washedarms.errors import BadLength, BadNumber, BadRow
from washedarms.labs import need_lab, need_state
from washedarms.plain import is_between
from washedarms.touches import is_stuff_row, row_end


def free_row_count(lab, state, length):
    """How many FREE ROWS of a length there are from a state."""
    need_lab(lab)
    need_state(lab, state)
    if not is_between(length, 0, 200):
        raise BadLength(length)
    return row_counts(lab, length)[length][state]


def free_row_at(lab, state, length, number):
    """The FREE ROW of a length from a state with this number."""
    many = free_row_count(lab, state, length)
    if not is_between(number, 0, many - 1):
        raise BadNumber(number)
    counts = row_counts(lab, length)
    stuffs = []
    for left in range(length - 1, -1, -1):
        for stuff, behind in enumerate(lab[0][state]):
            if behind is not None:
                if number < counts[left][behind]:
                    break
                number = number - counts[left][behind]
        stuffs = stuffs + [stuff]
        state = lab[0][state][stuff]
    return tuple(stuffs)


def free_row_place(lab, state, stuffs):
    """The number of a FREE ROW from a state among those of its length."""
    need_lab(lab)
    need_state(lab, state)
    if not is_stuff_row(lab, stuffs) or len(stuffs) > 200 or row_end(lab, state, stuffs) is None:
        raise BadRow(stuffs)
    counts = row_counts(lab, len(stuffs))
    number = 0
    for place, stuff in enumerate(stuffs):
        left = len(stuffs) - place - 1
        number = number + sum([counts[left][behind] for behind in lab[0][state][:stuff] if behind is not None])
        state = lab[0][state][stuff]
    return number


def row_counts(lab, length):
    """For each length up to this one, and each state, how many FREE ROWS there are."""
    counts = [[1 for _ in lab[0]]]
    for _ in range(length):
        last = counts[-1]
        counts = counts + [[sum([last[behind] for behind in row if behind is not None]) for row in lab[0]]]
    return counts
