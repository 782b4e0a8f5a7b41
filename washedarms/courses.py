"""Washing as a game: the ticks that touching a LOT surely takes, and plans that keep to them."""

from washedarms.errors import BadLot, BadTicks, TooGreat
from washedarms.labs import need_lab, need_state, stuff_count
from washedarms.plain import is_between, is_from, is_tuple_of


def deeds(lab, state, lot):
    """The DEEDS at a NODE."""
    need_node(lab, state, lot)
    return deeds_at(lab, state, lot)


def washing(lab, state, lot):
    """WASHING of a NODE."""
    need_small_node(lab, state, lot)
    return washing_table(lab, lot)[(state, lot)]


def course_plan(lab, state, lot):
    """The COURSE PLAN that is told of a NODE, None if WASHING is None."""
    need_small_node(lab, state, lot)
    table = washing_table(lab, lot)
    if table[(state, lot)] is None:
        return None
    found = {}
    ahead = [(state, lot)]
    while ahead:
        node = ahead.pop()
        if is_empty(node[1]) or node in found:
            continue
        found[node] = best_deed(lab, table, node)
        ahead = ahead + deed_nodes(lab, node, found[node])
    return tuple([node + (found[node], table[node]) for node in sorted(found)])


def course_plan_fault(lab, paper):
    """None of a COURSE PLAN, otherwise the index and the word of its first fault."""
    need_lab(lab)
    fault = rows_fault(lab, paper, is_plan_row)
    if fault is not None:
        return fault
    ticks = {row[:2]: row[3] for row in paper}
    for index, row in enumerate(paper):
        left = row[3] - deed_cost(lab, row[2])
        for node in deed_nodes(lab, row[:2], row[2]):
            if not is_empty(node[1]) and (node not in ticks or ticks[node] > left):
                return (index, "deed")
    return None


def is_course_plan(lab, state, lot, ticks, paper):
    """Whether a value is a COURSE PLAN for the NODE and so many ticks."""
    need_node(lab, state, lot)
    if not is_from(ticks, 0):
        raise BadTicks(ticks)
    if course_plan_fault(lab, paper) is not None:
        return False
    return is_empty(lot) or any([row[:2] == (state, lot) and row[3] <= ticks for row in paper])


def is_lot(lab, value):
    """Whether a value is a LOT of the laboratory."""
    return (is_tuple_of(value, stuff_count(lab)) and all([is_between(many, 0, 12) for many in value])
            and sum(value) <= 24)


def is_empty(lot):
    """Whether nothing is to be touched."""
    return sum(lot) == 0


def need_lot(lab, lot):
    """The LOT itself, if it is one of the laboratory."""
    if not is_lot(lab, lot):
        raise BadLot(lot)
    return lot


def need_node(lab, state, lot):
    """Refuse what isn't a NODE of a LAB."""
    need_lab(lab)
    need_state(lab, state)
    need_lot(lab, lot)


def need_small_node(lab, state, lot):
    """Refuse what isn't a NODE, or one from which too many may come."""
    need_node(lab, state, lot)
    many = len(lab[0])
    for uses in lot:
        many = many * (uses + 1)
    if many > 2000:
        raise TooGreat(2000)


def deeds_at(lab, state, lot):
    """The DEEDS at a NODE of a right LAB."""
    if is_empty(lot):
        return ()
    touches = [(0, stuff) for stuff, uses in enumerate(lot) if uses > 0 and lab[0][state][stuff] is not None]
    return tuple(touches + [(1, wash) for wash in range(len(lab[1]))])


def deed_cost(lab, deed):
    """What a DEED costs."""
    return lab[1][deed[1]][2] if deed[0] == 1 else 0


def deed_nodes(lab, node, deed):
    """The NODES that a DEED leads to."""
    state, lot = node
    sort, which = deed
    if sort == 1:
        return [(after, lot) for after in lab[1][which][0][state]]
    return [(lab[0][state][which], one_less(lot, which))]


def one_less(lot, stuff):
    """The LOT with one use of the stuff less."""
    return lot[:stuff] + (lot[stuff] - 1,) + lot[stuff + 1:]


def lots_within(lot):
    """All LOTS that have of no stuff more than this one, ascending."""
    rows = [()]
    for uses in lot:
        rows = [row + (many,) for row in rows for many in range(uses + 1)]
    return rows


def washing_table(lab, lot):
    """WASHING of all NODES with LOTS within this one."""
    table = {}
    for within in lots_within(lot):
        values = layer_values(lab, within, table)
        for state, value in enumerate(values):
            table[(state, within)] = value
    return table


def layer_values(lab, lot, table):
    """WASHING of all states with one LOT, where the table tells of all lesser LOTS.

    Turn by turn one wash more may be made; a course that keeps to the least
    number never comes to a state again, so the values settle.
    """
    if is_empty(lot):
        return [0 for _ in lab[0]]
    touched = [least([table[node] for node in touch_nodes(lab, (state, lot))]) for state in range(len(lab[0]))]
    values = touched
    while True:
        washed = [[cost_of(high, [values[one] for one in after[state]]) for after, low, high in lab[1]]
                  for state in range(len(lab[0]))]
        better = [least([value] + washed[state]) for state, value in enumerate(touched)]
        if better == values:
            return values
        values = better


def touch_nodes(lab, node):
    """The NODES that the touches at a NODE lead to."""
    nodes = []
    for deed in deeds_at(lab, node[0], node[1]):
        if deed[0] == 0:
            nodes = nodes + deed_nodes(lab, node, deed)
    return nodes


def least(values):
    """The least of values of which None is greater than each number."""
    return min([value for value in values if value is not None], default=None)


def cost_of(cost, values):
    """The cost and the greatest of the values behind it, None if one of them is None."""
    return None if None in values else cost + max(values)


def best_deed(lab, table, node):
    """The least DEED at a NODE that keeps to its WASHING, which is a number."""
    for deed in deeds_at(lab, node[0], node[1]):
        ticks = cost_of(deed_cost(lab, deed), [table[behind] for behind in deed_nodes(lab, node, deed)])
        if ticks is not None and ticks <= table[node]:
            return deed
    return None


def is_full_node(lab, state, lot):
    """Whether two values are a NODE whose LOT isn't empty."""
    return is_between(state, 0, len(lab[0]) - 1) and is_lot(lab, lot) and not is_empty(lot)


def rows_fault(lab, paper, is_row):
    """The first fault of a paper that lies in the form of a row or in the order of the rows, or None."""
    if type(paper) is not tuple:
        return (-1, "form")
    ahead = None
    for index, row in enumerate(paper):
        if not is_row(lab, row):
            return (index, "form")
        if ahead is not None and row[:2] <= ahead:
            return (index, "order")
        ahead = row[:2]
    return None


def is_plan_row(lab, value):
    """Whether a value has the form of a row of a COURSE PLAN."""
    if not is_tuple_of(value, 4) or not is_full_node(lab, value[0], value[1]) or not is_from(value[3], 0):
        return False
    deed = value[2]
    return (is_tuple_of(deed, 2) and all([type(number) is int for number in deed])
            and deed in deeds_at(lab, value[0], value[1]))
