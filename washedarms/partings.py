"""PARTINGS are judged here: papers by which a STANDING of one TASK is worse off than one of another TASK."""

from washedarms.errors import TooGreat
from washedarms.forms import stands
from washedarms.moves import is_move_here
from washedarms.plain import is_from, is_tuple_of
from washedarms.planchecks import MOST_ROWS
from washedarms.sides import standing_word, word_of
from washedarms.tablechecks import answer_pairs, are_answers
from washedarms.tasks import need_task
from washedarms.ticks import ticks_here
from washedarms.webs import live_here


def parting_fault(task, other, parting):
    """None for a PARTING of two TASKS, otherwise the index and the word of its first fault."""
    need_task(task)
    need_task(other)
    if type(parting) is not tuple:
        return (-1, "form")
    if len(parting) > MOST_ROWS:
        raise TooGreat(MOST_ROWS)
    for index, row in enumerate(parting):
        if not is_row(task, other, row):
            return (index, "form")
        if index > 0 and row[:2] <= parting[index - 1][:2]:
            return (index, "order")
        if not is_live_pair(task, other, row):
            return (index, "over")
    ranks = {row[:2]: row[2] for row in parting}
    for index, row in enumerate(parting):
        if not all([is_parted(task, other, ranks, row[2], pair) for pair in pairs_behind(task, other, row)]):
            return (index, "answer")
    return None


def is_row(task, other, value):
    """Whether a value has the form of a row of a PARTING."""
    if not is_tuple_of(value, 5) or not stands(task, value[0]) or not stands(other, value[1]):
        return False
    standing, place, rank, move, answers = value
    if not is_from(rank, 1) or type(move) is not tuple or type(answers) is not tuple:
        return False
    if not is_live_pair(task, other, value):
        return True
    return is_move_here(other, place, move) and are_answers(task, standing, answers)


def is_live_pair(task, other, row):
    """Whether both STANDINGS of a row are live."""
    return live_here(task, row[0]) and live_here(other, row[1])


def pairs_behind(task, other, row):
    """The pairs of STANDINGS to which the MOVE and the ANSWERS of a right row lead."""
    reached = [behind for late, behind in ticks_here(other, row[1], row[3])]
    return [(behind, across) for answer, behind in answer_pairs(task, row[0], row[4]) for across in reached]


def is_parted(task, other, ranks, rank, pair):
    """Whether a pair of STANDINGS is bad or has a row of lesser RANK."""
    if word_of(standing_word(task, pair[0]), standing_word(other, pair[1])) == "bad":
        return True
    return pair in ranks and ranks[pair] < rank
