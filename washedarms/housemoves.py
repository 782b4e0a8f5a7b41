"""The MOVE that a HOUSE makes."""

from washedarms.dues import keeping_moves
from washedarms.errors import BadHouse
from washedarms.houses import house_task
from washedarms.ticks import latenesses_here


def house_move(house):
    """The MOVE that the HOUSE makes in the next tick."""
    task, standing, dues = house_task(house)
    moves = keeping_moves(task, standing, dues)
    if not moves:
        raise BadHouse(3)
    # Of several ones min tells the first one, and the MOVES are in order.
    return min(moves, key=lambda move: (-count_of(move, "step"), count_of(move, "wash")))


def house_latenesses(house):
    """The LATENESSES of the MOVE that the HOUSE makes, ascending."""
    move = house_move(house)
    task, standing, dues = house_task(house)
    return latenesses_here(task, standing, move)


def count_of(move, word):
    """How many STARTS of steps, or of washes, a MOVE has."""
    return len([begin for begin in move if begin[1] == word])
