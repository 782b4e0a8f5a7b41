"""Like states, laboratories in which they are merged, and papers that part states."""

from washedarms.labs import need_lab, need_state, stuff_count
from washedarms.oneform import led_over, like_classes
from washedarms.plain import ascends, is_between, is_from, is_tuple_of, is_worded


def state_classes(lab):
    """The LIKE PARTITION with the fewest classes."""
    numbers = like_classes(lab)
    order = []
    for number in numbers:
        if number not in order:
            order = order + [number]
    return tuple([order.index(number) for number in numbers])


def is_like(lab, partition):
    """Whether a value is a LIKE PARTITION."""
    need_lab(lab)
    if not is_partition(lab, partition):
        return False
    firsts = [partition.index(number) for number in range(max(partition) + 1)]
    return all([class_sign(lab, partition, state) == class_sign(lab, partition, firsts[number])
                for state, number in enumerate(partition)])


def merged(lab):
    """The MERGED LAB."""
    classes = state_classes(lab)
    firsts = [classes.index(number) for number in range(max(classes) + 1)]
    return led_over(lab, firsts, classes)


def parting_paper(lab, one, other):
    """None of like or equal states, otherwise the PARTING PAPER with the rows that are needed."""
    need_lab(lab)
    need_state(lab, one)
    need_state(lab, other)
    parted = parted_pairs(lab)
    if in_order(one, other) not in parted:
        return None
    found = {}
    ahead = [in_order(one, other)]
    while ahead:
        pair = ahead.pop()
        if pair not in found:
            found[pair] = parted[pair]
            ahead = ahead + parting_pairs(lab, pair, parted[pair][1])
    return tuple([pair + found[pair] for pair in sorted(found)])


def paper_fault(lab, one, other, rows):
    """None of a PARTING PAPER of the two states; otherwise -2, the place of the first wrong row, or -1."""
    need_lab(lab)
    need_state(lab, one)
    need_state(lab, other)
    if type(rows) is not tuple or not all([is_parting_row(lab, row) for row in rows]):
        return -2
    if not ascends([row[:2] for row in rows]):
        return -2
    levels = {row[:2]: row[2] for row in rows}
    for place, row in enumerate(rows):
        lesser = {pair: True for pair in levels if levels[pair] < row[2]}
        if not parts(lab, row[:2], row[3], lesser):
            return place
    return None if in_order(one, other) in levels else -1


def is_partition(lab, value):
    """Whether a value is a PARTITION of the states."""
    if not is_tuple_of(value, len(lab[0])):
        return False
    most = -1
    for number in value:
        if not is_between(number, 0, most + 1):
            return False
        most = max(most, number)
    return True


def class_sign(lab, partition, state):
    """What a state must have in common with the others of its class."""
    touched = [None if behind is None else partition[behind] for behind in lab[0][state]]
    return (touched, [sorted({partition[one] for one in wash[0][state]}) for wash in lab[1]])


def in_order(one, other):
    """Two numbers as a pair, the lesser one first."""
    return (min(one, other), max(one, other))


def parted_pairs(lab):
    """For each pair of states that aren't like: its least LEVEL and the first REASON by least LEVELS."""
    states = len(lab[0])
    left = [(one, other) for one in range(states) for other in range(one + 1, states)]
    parted = {}
    level = 1
    while True:
        reasons = {pair: first_reason(lab, pair, parted) for pair in left}
        falling = [pair for pair in left if reasons[pair] is not None]
        if not falling:
            return parted
        for pair in falling:
            parted[pair] = (level, reasons[pair])
        left = [pair for pair in left if reasons[pair] is None]
        level += 1


def first_reason(lab, pair, lesser):
    """The first REASON that parts two states by pairs that have a row with a lesser LEVEL, or None."""
    for reason in some_reasons(lab):
        if parts(lab, pair, reason, lesser):
            return reason
    return None


def some_reasons(lab):
    """All values that have the form of a REASON, in the order in which they are told."""
    stuffs = list(range(stuff_count(lab)))
    washes = [("wash", wash, side, state) for wash in range(len(lab[1])) for side in (0, 1)
              for state in range(len(lab[0]))]
    return [("stuff", stuff) for stuff in stuffs] + [("touch", stuff) for stuff in stuffs] + washes


def parts(lab, pair, reason, lesser):
    """Whether a REASON parts two states by pairs that have a row with a lesser LEVEL."""
    if reason[0] == "wash":
        if reason[3] not in lab[1][reason[1]][0][pair[reason[2]]]:
            return False
    else:
        behind = [lab[0][state][reason[1]] for state in pair]
        if reason[0] == "stuff":
            return (behind[0] is None) != (behind[1] is None)
        if None in behind:
            return False
    return all([two in lesser for two in parting_pairs(lab, pair, reason)])


def parting_pairs(lab, pair, reason):
    """The pairs of states that the REASON of a row speaks of."""
    if reason[0] == "touch":
        return [in_order(lab[0][pair[0]][reason[1]], lab[0][pair[1]][reason[1]])]
    if reason[0] == "wash":
        others = lab[1][reason[1]][0][pair[1 - reason[2]]]
        return [in_order(reason[3], state) for state in others]
    return []


def is_parting_row(lab, value):
    """Whether a value has the form of a row of a PARTING PAPER."""
    if not is_tuple_of(value, 4) or not is_between(value[0], 0, len(lab[0]) - 1):
        return False
    return (is_between(value[1], value[0] + 1, len(lab[0]) - 1) and is_from(value[2], 1)
            and is_parting_reason(lab, value[3]))


def is_parting_reason(lab, value):
    """Whether a value has the form of a REASON of a PARTING PAPER."""
    if is_worded(value, "wash", 4):
        return (is_between(value[1], 0, len(lab[1]) - 1) and is_between(value[2], 0, 1)
                and is_between(value[3], 0, len(lab[0]) - 1))
    if is_worded(value, "stuff", 2) or is_worded(value, "touch", 2):
        return is_between(value[1], 0, stuff_count(lab) - 1)
    return False
