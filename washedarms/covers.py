"""COVERS are judged here: pairs of STANDINGS of two TASKS of which the one is never worse off."""

from washedarms.errors import BadCover, TooGreat
from washedarms.forms import need_standing, stands
from washedarms.plain import is_tuple_of
from washedarms.planchecks import MOST_ROWS
from washedarms.sides import Side, first_answer, pair_here, standing_word, word_of
from washedarms.tasks import need_task


def pair_word(task, standing, other, place):
    """Whether a pair of a STANDING of the one TASK and one of the other TASK is good, bad or live."""
    need_standing(task, standing)
    need_standing(other, place)
    return word_of(standing_word(task, standing), standing_word(other, place))


def cover_fault(task, other, cover):
    """None for a COVER of the other TASK by the one, otherwise the index and the word of its first fault."""
    need_task(task)
    need_task(other)
    return fault_of_cover(task, other, cover)


def need_cover(task, other, which, cover):
    """Refuse what is no COVER of two right TASKS."""
    fault = fault_of_cover(task, other, cover)
    if fault is not None:
        raise BadCover(which, fault[0], fault[1])


def fault_of_cover(task, other, cover):
    """What cover_fault tells of right TASKS."""
    if type(cover) is not tuple:
        return (-1, "form")
    if len(cover) > MOST_ROWS:
        raise TooGreat(MOST_ROWS)
    for index, row in enumerate(cover):
        if not is_tuple_of(row, 2) or not stands(task, row[0]) or not stands(other, row[1]):
            return (index, "form")
        if index > 0 and row <= cover[index - 1]:
            return (index, "order")
    one, beside = Side(task), Side(other)
    table = cover_table(one, beside, cover)
    for index, pair in enumerate(table):
        if pair_here(one, beside, pair) == "bad":
            return (index, "bad")
    for index, pair in enumerate(table):
        if not is_covered(one, beside, table, pair):
            return (index, "move")
    return None


def cover_table(one, other, cover):
    """The pairs of numbers that a COVER, or a part of one, has of two sides, in its order."""
    return {(one.number_of(standing), other.number_of(place)): True for standing, place in cover}


def is_covered(one, other, table, pair):
    """Whether a pair of a table is good, or each MOVE of its other STANDING is answered by the table."""
    if pair_here(one, other, pair) == "good":
        return True
    return all([first_answer(one, other, table, pair[0], behind) is not None
                for move, behind in other.ticks_at(pair[1])])
