"""States that are as good as others, and papers for those that aren't."""

from washedarms.labs import need_lab, need_state, stuff_count
from washedarms.plain import ascends, is_between, is_from, is_tuple_of, is_worded


def is_as_good(lab, state, other):
    """Whether the one state is as good as the other one."""
    need_lab(lab)
    need_state(lab, state)
    need_state(lab, other)
    return (state, other) not in fallen_pairs(lab)


def as_good_pairs(lab):
    """All pairs of unlike states of which the first is as good as the second, ascending."""
    fallen = fallen_pairs(need_lab(lab))
    return tuple([pair for pair in unlike_pairs(lab) if pair not in fallen])


def is_simulation(lab, pairs):
    """Whether a value is an ascending tuple of pairs of unlike states that are a SIMULATION."""
    need_lab(lab)
    if type(pairs) is not tuple or not all([is_pair(lab, pair) for pair in pairs]):
        return False
    left = {pair: True for pair in pairs}
    return ascends(pairs) and all([reason_of(lab, pair, left) is None for pair in pairs])


def lack(lab, state, other):
    """None if the one state is as good as the other one, otherwise the LACK with the rows that it needs."""
    need_lab(lab)
    need_state(lab, state)
    need_state(lab, other)
    fallen = fallen_pairs(lab)
    if (state, other) not in fallen:
        return None
    found = {}
    ahead = [(state, other)]
    while ahead:
        pair = ahead.pop()
        if pair not in found:
            found[pair] = fallen[pair]
            ahead = ahead + spoken_pairs(lab, pair, fallen[pair][1])
    return tuple([pair + found[pair] for pair in sorted(found)])


def lack_fault(lab, state, other, rows):
    """None if a value is a LACK of the two states, otherwise the index of its first fault, or -1."""
    need_lab(lab)
    need_state(lab, state)
    need_state(lab, other)
    if type(rows) is not tuple:
        return -1
    levels = {}
    ahead = None
    for index, row in enumerate(rows):
        if not is_lack_row(lab, row) or (ahead is not None and row[:2] <= ahead):
            return index
        ahead = row[:2]
        levels[ahead] = row[2]
    for index, row in enumerate(rows):
        if not reason_holds(lab, row, levels):
            return index
    return None if (state, other) in levels else -1


def unlike_pairs(lab):
    """All pairs of unlike states, ascending."""
    states = len(lab[0])
    return [(state, other) for state in range(states) for other in range(states) if state != other]


def fallen_pairs(lab):
    """For each pair of which the first state isn't as good as the second one: its LEVEL and REASON."""
    left = {pair: True for pair in unlike_pairs(lab)}
    fallen = {}
    level = 1
    while True:
        reasons = {pair: reason_of(lab, pair, left) for pair in left}
        falling = [pair for pair in left if reasons[pair] is not None]
        if not falling:
            return fallen
        for pair in falling:
            fallen[pair] = (level, reasons[pair])
        left = {pair: True for pair in left if reasons[pair] is None}
        level += 1


def reason_of(lab, pair, left):
    """The first REASON of a pair of states by the pairs that are left, None if it keeps the rule."""
    state, other = pair
    touches = [(stuff, lab[0][state][stuff], lab[0][other][stuff]) for stuff in range(stuff_count(lab))]
    for stuff, one, two in touches:
        if one is None and two is not None:
            return ("stuff", stuff)
    for stuff, one, two in touches:
        if one is not None and two is not None and one != two and (one, two) not in left:
            return ("touch", stuff)
    for number, wash in enumerate(lab[1]):
        for one in wash[0][state]:
            if not any([one == two or (one, two) in left for two in wash[0][other]]):
                return ("wash", number, one)
    return None


def spoken_pairs(lab, pair, reason):
    """The pairs of states that the REASON of a pair speaks of."""
    state, other = pair
    if reason[0] == "touch":
        return [(lab[0][state][reason[1]], lab[0][other][reason[1]])]
    if reason[0] == "wash":
        return [(reason[2], two) for two in lab[1][reason[1]][0][other]]
    return []


def reason_holds(lab, row, levels):
    """Whether the REASON of a row of the right form holds by the LEVELS of the pairs that have a row."""
    state, other, level, reason = row
    if reason[0] == "wash":
        if reason[2] not in lab[1][reason[1]][0][state]:
            return False
    else:
        one, two = lab[0][state][reason[1]], lab[0][other][reason[1]]
        if two is None or (one is None) != (reason[0] == "stuff"):
            return False
    pairs = spoken_pairs(lab, (state, other), reason)
    return all([pair in levels and levels[pair] < level for pair in pairs])


def is_pair(lab, value):
    """Whether a value is a pair of unlike states."""
    most = len(lab[0]) - 1
    return is_tuple_of(value, 2) and all([is_between(one, 0, most) for one in value]) and value[0] != value[1]


def is_lack_row(lab, value):
    """Whether a value has the form of a row of a LACK."""
    return (is_tuple_of(value, 4) and is_pair(lab, value[:2]) and is_from(value[2], 1)
            and is_reason(lab, value[3]))


def is_reason(lab, value):
    """Whether a value has the form of a REASON."""
    if is_worded(value, "wash", 3):
        return is_between(value[1], 0, len(lab[1]) - 1) and is_between(value[2], 0, len(lab[0]) - 1)
    if is_worded(value, "stuff", 2) or is_worded(value, "touch", 2):
        return is_between(value[1], 0, stuff_count(lab) - 1)
    return False
