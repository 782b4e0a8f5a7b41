"""DUE PLANS and DUE TABLES are judged here, and two of them that contradict each other are led against each other.

A game is a pair of a FREED TASK and the DUES for which it was freed.
"""

from washedarms.dues import MOST_DUE, claim_behind, freed, is_kept, sample_done
from washedarms.forms import stands
from washedarms.moves import is_move_here, moves_here
from washedarms.plain import is_between, is_tuple_of
from washedarms.planchecks import need_own, own_fault
from washedarms.standings import broken_here
from washedarms.tablechecks import answer_pairs, are_answers
from washedarms.ticks import standing_behind, ticks_here


def due_plan_fault(task, standing, dues, paper):
    """None of a DUE PLAN for some claim of the game, otherwise the index and the word of its first fault."""
    game = game_of(task, standing, dues)
    fault = due_plan_own_fault(game, paper)
    return due_plan_answer_fault(game, paper) if fault is None else fault


def due_table_fault(task, standing, dues, paper):
    """None of a DUE TABLE for some claim of the game, otherwise the index and the word of its first fault."""
    game = game_of(task, standing, dues)
    fault = due_table_own_fault(game, paper)
    return due_table_answer_fault(game, paper) if fault is None else fault


def is_due_plan(task, standing, dues, paper):
    """Whether a value is a DUE PLAN for a claim."""
    if due_plan_fault(task, standing, dues, paper) is not None:
        return False
    return is_kept(dues) or (freed(task, standing, dues)[1], dues) in claim_places(paper)


def is_due_table(task, standing, dues, paper):
    """Whether a value is a DUE TABLE for a claim."""
    game, here = freed(task, standing, dues)
    if due_table_fault(task, standing, dues, paper) is not None:
        return False
    return broken_here(game, here) or (here, dues) in claim_places(paper)


def due_clash(task, standing, dues, plan, table):
    """None unless both papers have a row of the claim; otherwise the row of them that is wrong, and the walk to it."""
    game = game_of(task, standing, dues)
    claim = (freed(task, standing, dues)[1], dues)
    need_own("plan", due_plan_own_fault(game, plan))
    need_own("table", due_table_own_fault(game, table))
    places = claim_places(plan)
    others = claim_places(table)
    if claim not in places or claim not in others:
        return None
    walk = []
    while True:
        place, other = places[claim], others[claim]
        move = plan[place][2]
        late = table[other][2][moves_here(game[0], claim[0]).index(move)]
        walk.append((move, late))
        claim = claim_behind(game[0], claim[1], standing_behind(game[0], claim[0], move, late))
        if not is_held(places, claim):
            return ("plan", place, tuple(walk))
        if not is_doomed(others, claim):
            return ("table", other, tuple(walk))


def game_of(task, standing, dues):
    """The game of a claim."""
    return (freed(task, standing, dues)[0], dues)


def claim_places(paper):
    """For each claim of a paper the index of its row."""
    return {row[:2]: index for index, row in enumerate(paper)}


def due_plan_own_fault(game, paper):
    """The first fault of a DUE PLAN by itself, whatever its MOVES lead to."""
    return own_fault(game, paper, 2, is_due_plan_row, is_over_claim)


def due_table_own_fault(game, paper):
    """The first fault of a DUE TABLE by itself, whatever its ANSWERS lead to."""
    return own_fault(game, paper, 2, is_due_table_row, is_over_claim)


def has_claim(game, value):
    """Whether a value is a triple of a claim of the game and a tuple."""
    if not is_tuple_of(value, 3) or not stands(game[0], value[0]) or type(value[2]) is not tuple:
        return False
    left = value[1]
    return is_tuple_of(left, len(game[1])) and all([is_due_left(game, value[0], sample, due)
                                                    for sample, due in enumerate(left)])


def is_due_left(game, standing, sample, due):
    """Whether a value may stand in a claim of the game as what is left of a sample's DUE."""
    if game[1][sample] == -1 or sample_done(game[0], standing, sample):
        return is_between(due, -1, -1)
    return is_between(due, 1, MOST_DUE)


def is_over_claim(game, row):
    """Whether the claim of a row is kept, or its STANDING broken."""
    return is_kept(row[1]) or broken_here(game[0], row[0])


def is_due_plan_row(game, value):
    """Whether a value has the form of a row of a DUE PLAN."""
    return has_claim(game, value) and (is_over_claim(game, value) or is_move_here(game[0], value[0], value[2]))


def is_due_table_row(game, value):
    """Whether a value has the form of a row of a DUE TABLE."""
    return has_claim(game, value) and (is_over_claim(game, value) or are_answers(game[0], value[0], value[2]))


def due_plan_answer_fault(game, paper):
    """The first fault of a DUE PLAN whose rows are right by themselves."""
    places = claim_places(paper)
    for index, (standing, left, move) in enumerate(paper):
        claims = [claim_behind(game[0], left, behind) for late, behind in ticks_here(game[0], standing, move)]
        if not all([is_held(places, claim) for claim in claims]):
            return (index, "answer")
    return None


def due_table_answer_fault(game, paper):
    """The first fault of a DUE TABLE whose rows are right by themselves."""
    places = claim_places(paper)
    for index, (standing, left, answers) in enumerate(paper):
        claims = [claim_behind(game[0], left, behind) for answer, behind in answer_pairs(game[0], standing, answers)]
        if not all([is_doomed(places, claim) for claim in claims]):
            return (index, "answer")
    return None


def is_held(places, claim):
    """Whether a claim is kept or has a row; None is a lost one."""
    return claim is not None and (is_kept(claim[1]) or claim in places)


def is_doomed(places, claim):
    """Whether a claim is lost, or isn't kept and has a row; None is a lost one."""
    return claim is None or (not is_kept(claim[1]) and claim in places)
