"""What a LAB is, and what is wrong with a value that is none."""

from washedarms.errors import BadLab, BadState
from washedarms.plain import ascending_fault, is_between, is_tuple_of, span_fault

LIMITS = ((2, "tools", 1, 3), (3, "arms", 1, 3), (4, "zones", 0, 4))


def lab_fault(value):
    """The fault of a value as a LAB, None if it is one."""
    if not is_tuple_of(value, 5):
        return ("lab", ())
    place = meets_place(value[0])
    if place is not None:
        return ("meets", (0,) + place)
    place = washes_place(value[1], len(value[0]))
    if place is not None:
        return ("washes", (1,) + place)
    for index, word, low, high in LIMITS:
        if not is_between(value[index], low, high):
            return (word, (index,))
    return None


def is_lab(value):
    """Whether a value is a LAB."""
    return lab_fault(value) is None


def need_lab(lab):
    """The LAB itself, if it is one."""
    fault = lab_fault(lab)
    if fault is not None:
        raise BadLab(fault[0], fault[1])
    return lab


def need_state(lab, state):
    """The state itself, if it is one of the LAB."""
    if not is_between(state, 0, len(lab[0]) - 1):
        raise BadState(state)
    return state


def stuff_count(lab):
    """How many stuffs a LAB has."""
    return len(lab[0][0])


def meets_place(meets):
    """The place of the first wrong thing in MEETS, None if nothing is wrong."""
    if type(meets) is not tuple or not 1 <= len(meets) <= 8:
        return ()
    for state, row in enumerate(meets):
        if type(row) is not tuple or not 1 <= len(row) <= 8 or len(row) != len(meets[0]):
            return (state,)
        for stuff, behind in enumerate(row):
            # A clean tool may touch everything, so row 0 has no None.
            if behind is None and state > 0:
                continue
            if not is_between(behind, 0, len(meets) - 1):
                return (state, stuff)
    return None


def washes_place(washes, states):
    """The place of the first wrong thing in WASHES, None if nothing is wrong."""
    if type(washes) is not tuple or len(washes) > 3:
        return ()
    for number, wash in enumerate(washes):
        place = wash_place(wash, states)
        if place is not None:
            return (number,) + place
    return None


def wash_place(wash, states):
    """The place of the first wrong thing in one wash, None if nothing is wrong."""
    if not is_tuple_of(wash, 3):
        return ()
    place = after_place(wash[0], states)
    if place is not None:
        return (0,) + place
    fault = span_fault(wash[1], wash[2])
    return None if fault is None else (1 + fault,)


def after_place(after, states):
    """The place of the first wrong thing in AFTER, None if nothing is wrong."""
    if not is_tuple_of(after, states):
        return ()
    for state, results in enumerate(after):
        if type(results) is not tuple or not 1 <= len(results) <= 3:
            return (state,)
        fault = ascending_fault(results, 0, states - 1)
        if fault is not None:
            return (state, fault)
    return None
