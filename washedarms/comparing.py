"""Two STANDINGS of two TASKS compared: a COVER or a PARTING, the one of both that there is."""

from washedarms.errors import TooGreat
from washedarms.forms import need_standing
from washedarms.sides import Side, pair_here

MOST_PAIRS = 5000


def compared(task, standing, other, place):
    """The word "cover" or "parting", and the rows of it."""
    need_standing(task, standing)
    need_standing(other, place)
    one, beside = Side(task), Side(other)
    first = (one.number_of(standing), beside.number_of(place))
    pairs = pairs_from(one, beside, first)
    ranks = least_ranks(one, beside, pairs)
    if first in ranks:
        return ("parting", parting_rows(one, beside, ranks, first))
    rows = [(one.standings[pair[0]], beside.standings[pair[1]]) for pair in pairs
            if pair not in ranks and pair_here(one, beside, pair) == "live"]
    return ("cover", tuple(sorted(rows)))


def pairs_from(one, other, first):
    """All pairs of numbers that come from one by all MOVES and LATENESSES of both, going on from live ones alone."""
    found = {first: True}
    ahead = [first]
    turn = 0
    while turn < len(ahead):
        pair = ahead[turn]
        turn += 1
        if pair_here(one, other, pair) != "live":
            continue
        reached = numbers_behind(other, pair[1])
        for number in numbers_behind(one, pair[0]):
            for across in reached:
                if (number, across) not in found:
                    found[(number, across)] = True
                    ahead.append((number, across))
        if len(ahead) > MOST_PAIRS:
            raise TooGreat(MOST_PAIRS)
    return ahead


def numbers_behind(side, number):
    """The numbers of all STANDINGS to which one tick leads, each once."""
    found = {behind: True for move, ends in side.ticks_at(number) for late, behind in ends}
    return list(found)


def least_ranks(one, other, pairs):
    """The least ranks of all pairs that have a PARTING, 0 of bad ones."""
    live = [pair for pair in pairs if pair_here(one, other, pair) == "live"]
    turn = [pair for pair in pairs if pair_here(one, other, pair) == "bad"]
    ranks = {pair: 0 for pair in turn}
    sources, others = sources_of(one, [pair[0] for pair in live]), sources_of(other, [pair[1] for pair in live])
    waiting = {pair: True for pair in live}
    rank = 0
    while turn:
        rank += 1
        # Only a pair that leads to one that has just got its rank can get one now.
        asked = {(number, across): True for pair in turn for number in sources.get(pair[0], [])
                 for across in others.get(pair[1], []) if (number, across) in waiting}
        turn = [pair for pair in asked if parting_move(one, other, ranks, rank, pair) is not None]
        for pair in turn:
            ranks[pair] = rank
            del waiting[pair]
    return ranks


def sources_of(side, numbers):
    """For each number of a STANDING those of these numbers from which one tick leads to it."""
    found = {}
    for number in sorted(set(numbers)):
        for behind in numbers_behind(side, number):
            if behind not in found:
                found[behind] = []
            found[behind].append(number)
    return found


def parting_move(one, other, ranks, rank, pair):
    """The first MOVE of a live pair's other STANDING by which it has this rank, with its ENDS and the ANSWERS, or None.

    The ANSWERS are told as pairs of a LATENESS and a number.
    """
    for move, ends in other.ticks_at(pair[1]):
        reached = [across for late, across in ends]
        answers = answers_to(one, ranks, rank, pair[0], reached)
        if answers is not None:
            return (move, ends, answers)
    return None


def answers_to(one, ranks, rank, number, reached):
    """For each MOVE at a number the first of its ENDS that leads, with all that is reached, below a rank; or None."""
    answers = []
    for move, ends in one.ticks_at(number):
        lesser = [end for end in ends if all([is_below(ranks, (end[1], across), rank) for across in reached])]
        if not lesser:
            return None
        answers.append(lesser[0])
    return answers


def is_below(ranks, pair, rank):
    """Whether a pair has a lesser rank."""
    return pair in ranks and ranks[pair] < rank


def parting_rows(one, other, ranks, first):
    """The rows of the PARTING of a pair that has a rank, with the least ranks, ascending; () of a bad pair."""
    found = {}
    ahead = [first]
    while ahead:
        pair = ahead.pop()
        if ranks[pair] == 0 or pair in found:
            continue
        move, ends, answers = parting_move(one, other, ranks, ranks[pair], pair)
        found[pair] = (one.standings[pair[0]], other.standings[pair[1]], ranks[pair], move,
                       tuple([late for late, behind in answers]))
        reached = [across for late, across in ends]
        ahead.extend([(behind, across) for late, behind in answers for across in reached])
    return tuple(sorted([found[pair] for pair in found]))
