"""Washes that another one stands for, and results that another one outdoes."""

from washedarms.errors import BadNumber
from washedarms.goodness import fallen_pairs
from washedarms.labs import need_lab
from washedarms.plain import is_ascending


def needless_washes(lab):
    """The numbers of the needless washes, ascending."""
    fallen = fallen_pairs(need_lab(lab))
    return tuple([number for number in range(len(lab[1])) if is_needless_wash(lab, number, fallen)])


def lab_without(lab, washes):
    """The laboratory without the washes of these numbers."""
    need_lab(lab)
    if not is_ascending(washes, 0, len(lab[1]) - 1):
        raise BadNumber(washes)
    kept = tuple([wash for number, wash in enumerate(lab[1]) if number not in washes])
    return (lab[0], kept) + lab[2:]


def lab_with_worst(lab):
    """The laboratory without all needless results."""
    fallen = fallen_pairs(need_lab(lab))
    washes = [(tuple([worst_results(results, fallen) for results in after]), low, high)
              for after, low, high in lab[1]]
    return (lab[0], tuple(washes)) + lab[2:]


def is_needless_wash(lab, number, fallen):
    """Whether a wash is needless, where the pairs that aren't as good are told."""
    for other in range(len(lab[1])):
        if other != number and stands_for(lab, other, number, fallen):
            if other < number or not stands_for(lab, number, other, fallen):
                return True
    return False


def stands_for(lab, number, other, fallen):
    """Whether one wash stands for another one."""
    after, low, high = lab[1][number]
    other_after, other_low, other_high = lab[1][other]
    if other_low > low or high > other_high:
        return False
    return all([any([(one, two) not in fallen for two in other_after[state]])
                for state, results in enumerate(after) for one in results])


def worst_results(results, fallen):
    """The results of an entry of AFTER that aren't needless."""
    return tuple([one for one in results if not any([outdoes(two, one, fallen) for two in results])])


def outdoes(result, other, fallen):
    """Whether another result is needless beside this one of the same entry."""
    if result == other or (other, result) in fallen:
        return False
    return (result, other) in fallen or result < other
