"""COURSE BARS: papers by which no way of washing surely keeps to less."""

from washedarms.courses import (cost_of, deed_cost, is_full_node, need_node, need_small_node, rows_fault,
                                touch_nodes, washing_table)
from washedarms.errors import BadTicks
from washedarms.labs import need_lab
from washedarms.plain import is_from, is_tuple_of


def course_bar(lab, state, lot):
    """The COURSE BAR that is told of a NODE, () if WASHING is 0."""
    need_small_node(lab, state, lot)
    table = washing_table(lab, lot)
    found = {}
    ahead = [(state, lot)]
    while ahead:
        node = ahead.pop()
        if table[node] == 0 or node in found:
            continue
        found[node] = worst_answers(lab, table, node)
        ahead = ahead + touch_nodes(lab, node) + [(answer, node[1]) for answer in found[node]]
    return tuple([node + (table[node], found[node]) for node in sorted(found)])


def course_bar_fault(lab, paper):
    """None of a COURSE BAR, otherwise the index and the word of its first fault."""
    need_lab(lab)
    fault = rows_fault(lab, paper, is_bar_row)
    if fault is not None:
        return fault
    ticks = {row[:2]: row[2] for row in paper}
    for index, row in enumerate(paper):
        if not all([node in ticks and reaches(ticks[node], row[2]) for node in touch_nodes(lab, row[:2])]):
            return (index, "touch")
        if not all([answer_bars(lab, ticks, row, wash) for wash in range(len(lab[1]))]):
            return (index, "answer")
    return None


def is_course_bar(lab, state, lot, ticks, paper):
    """Whether a value is a COURSE BAR for the NODE and so many ticks, None standing for ever."""
    need_node(lab, state, lot)
    if ticks is not None and not is_from(ticks, 0):
        raise BadTicks(ticks)
    if course_bar_fault(lab, paper) is not None:
        return False
    return ticks == 0 or any([row[:2] == (state, lot) and reaches(row[2], ticks) for row in paper])


def worst_answers(lab, table, node):
    """For each wash the least of the states that lead to the greatest WASHING."""
    answers = []
    for after, low, high in lab[1]:
        values = {answer: table[(answer, node[1])] for answer in after[node[0]]}
        most = cost_of(0, list(values.values()))
        answers = answers + [min([answer for answer in values if values[answer] == most])]
    return tuple(answers)


def reaches(ticks, other):
    """Whether TICKS are at least as great as other ones, None being greater than each number."""
    return ticks is None or (other is not None and ticks >= other)


def answer_bars(lab, ticks, row, wash):
    """Whether the answer of a row to a wash keeps its rule by the TICKS of all rows."""
    node = (row[3][wash], row[1])
    # What has no row counts as 0, which is less than ever.
    behind = ticks[node] if node in ticks else 0
    if behind is None or row[2] is None:
        return behind is None
    return behind + deed_cost(lab, (1, wash)) >= row[2]


def is_bar_row(lab, value):
    """Whether a value has the form of a row of a COURSE BAR."""
    if not is_tuple_of(value, 4) or not is_full_node(lab, value[0], value[1]):
        return False
    if value[2] is not None and not is_from(value[2], 1):
        return False
    answers = value[3]
    return is_tuple_of(answers, len(lab[1])) and all([is_result(lab[1][wash], value[0], answer)
                                                      for wash, answer in enumerate(answers)])


def is_result(wash, state, value):
    """Whether a value is a state that the wash may leave of this one."""
    return type(value) is int and value in wash[0][state]
