"""WASHING, plans and bars by a literal reading of [202] to [204], for small LOTS."""

from functools import lru_cache
from itertools import product

from tests.examples import DOC_LAB, random_labs

LABS = [DOC_LAB] + random_labs(30, 12, states=3, stuffs=2, washes=1) + random_labs(31, 12, states=3, stuffs=2, washes=2)
LOTS = ((0, 0), (1, 0), (0, 1), (1, 1), (2, 1), (0, 2))


def nodes():
    """Triples of a LAB, a state and a LOT."""
    return [(lab, state, lot) for lab in LABS for state in range(len(lab[0])) for lot in LOTS]


def literal_deeds(lab, state, lot):
    """The DEEDS at a NODE: of each its cost and the NODES that it leads to."""
    found = {}
    if sum(lot):
        for stuff, uses in enumerate(lot):
            if uses and lab[0][state][stuff] is not None:
                less = tuple(many - (other == stuff) for other, many in enumerate(lot))
                found[0, stuff] = (0, [(lab[0][state][stuff], less)])
        for number, (after, _, high) in enumerate(lab[1]):
            found[1, number] = (high, [(one, lot) for one in after[state]])
    return found


@lru_cache(maxsize=None)
def keeps_to(lab, state, lot, ticks):
    """Whether some way of choosing surely keeps to so many ticks."""
    if ticks < 0:
        return False
    return sum(lot) == 0 or any(
        all(keeps_to(lab, *node, ticks - cost) for node in behind)
        for cost, behind in literal_deeds(lab, state, lot).values())


@lru_cache(maxsize=None)
def literal_washing(lab, state, lot):
    """WASHING: each touch needs at most one wash for each other state, so the look can be ended."""
    most = sum(lot) * len(lab[0]) * 3
    for ticks in range(most + 1):
        if keeps_to(lab, state, lot, ticks):
            return ticks
    return None


def lab_like(lab, **parts):
    """A LAB with other parts."""
    row = dict(zip(("meets", "washes", "tools", "arms", "zones"), lab))
    row.update(parts)
    return tuple(row.values())


def all_lots(lot):
    """All LOTS within one."""
    return product(*[range(many + 1) for many in lot])
