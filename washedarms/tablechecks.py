"""Papers on lateness are judged here."""

from washedarms.errors import BadPaper, BadTicks
from washedarms.forms import need_standing, stands
from washedarms.moves import moves_here
from washedarms.plain import is_from, is_tuple_of
from washedarms.planchecks import is_over_row, own_fault
from washedarms.standings import broken_here
from washedarms.tasks import need_task
from washedarms.ticks import is_lateness_here, standing_behind
from washedarms.webs import live_here


def table_fault(task, paper):
    """None of a table paper, otherwise the index and the word of its first fault."""
    need_task(task)
    fault = table_own_fault(task, paper)
    return table_answer_fault(task, paper) if fault is None else fault


def is_lateness_table(task, standing, ticks, paper):
    """Whether a value is a TABLE OF LATENESS for a STANDING and so many ticks, None standing for ever."""
    need_standing(task, standing)
    if ticks is not None and not is_from(ticks, 0):
        raise BadTicks(ticks)
    if table_fault(task, paper) is not None:
        return False
    return broken_here(task, standing) or any([row[0] == standing and is_enough(row[1], ticks) for row in paper])


def need_table(task, paper):
    """The table paper itself, if it is one of a right TASK."""
    fault = table_fault(task, paper)
    if fault is not None:
        raise BadPaper("table", fault[0], fault[1])
    return paper


def table_own_fault(task, paper):
    """The first fault of a table paper by itself, whatever its ANSWERS lead to."""
    return own_fault(task, paper, 1, is_table_row, is_over_row)


def is_table_row(task, value):
    """Whether a value has the form of a row of a table paper."""
    if not is_tuple_of(value, 3) or not stands(task, value[0]):
        return False
    standing, left, answers = value
    if type(answers) is not tuple or (left is not None and not is_from(left, 0)):
        return False
    if not live_here(task, standing):
        return True
    return answers == () if left == 0 else are_answers(task, standing, answers)


def are_answers(task, standing, answers):
    """Whether a tuple has one LATENESS for each MOVE at a live STANDING, in the order of the MOVES."""
    moves = moves_here(task, standing)
    return len(answers) == len(moves) and all([is_lateness_here(task, standing, move, answer)
                                               for move, answer in zip(moves, answers)])


def answer_pairs(task, standing, answers):
    """The pairs of an ANSWER and the STANDING to which it leads, () having none."""
    if answers == ():
        return []
    return [(answer, standing_behind(task, standing, move, answer))
            for move, answer in zip(moves_here(task, standing), answers)]


def table_answer_fault(task, paper):
    """The first fault of a table paper whose rows are right by themselves."""
    lefts = lefts_told(paper)
    for index, row in enumerate(paper):
        if not all([stays_late(task, lefts, row[1], behind) for answer, behind in answer_pairs(task, row[0], row[2])]):
            return (index, "answer")
    return None


def lefts_told(paper):
    """For each STANDING of a table paper its LEFT."""
    return {row[0]: row[1] for row in paper}


def stays_late(task, lefts, left, behind):
    """Whether a STANDING is broken, or has a row with LEFT enough for an ANSWER of a row with this LEFT."""
    if broken_here(task, behind):
        return True
    return behind in lefts and is_enough(lefts[behind], None if left is None else left - 1)


def is_enough(left, least):
    """Whether a LEFT is at least a number, or for ever; for None only for ever is enough."""
    return left is None or (least is not None and left >= least)
