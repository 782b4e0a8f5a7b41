"""Pairs of STANDINGS of two TASKS, whose STANDINGS go by numbers, as one stands in many pairs."""

from washedarms.standings import broken_here, done_here
from washedarms.ticks import ticks_from


class Side:
    """The STANDINGS of one of two right TASKS, numbered as they are met, and what comes of them.

    Pairs of numbers are looked up much faster than pairs of STANDINGS.
    """

    def __init__(self, task):
        self.task = task
        self.standings = []
        self.numbers = {}
        self.words = []
        self.rows = []

    def number_of(self, standing):
        """The number of a right STANDING, a new one if it was not met yet."""
        if standing not in self.numbers:
            self.numbers[standing] = len(self.standings)
            self.standings.append(standing)
            self.words.append(standing_word(self.task, standing))
            self.rows.append(None)
        return self.numbers[standing]

    def ticks_at(self, number):
        """For each MOVE at a STANDING that isn't broken: it, and the pairs of a LATENESS and the number behind."""
        if self.rows[number] is None:
            told = ticks_from(self.task, self.standings[number])
            self.rows[number] = [(move, [(late, self.number_of(behind)) for late, behind in ends])
                                 for move, ends in told]
        return self.rows[number]


def standing_word(task, standing):
    """Whether a right STANDING is done, broken or live."""
    if done_here(task, standing):
        return "done"
    return "broken" if broken_here(task, standing) else "live"


def word_of(word, other):
    """What a pair of STANDINGS is of which the one and the other one are done, broken or live."""
    if word == "done" or other == "broken":
        return "good"
    if word == "broken" or other == "done":
        return "bad"
    return "live"


def pair_here(one, other, pair):
    """What a pair of numbers of two sides is."""
    return word_of(one.words[pair[0]], other.words[pair[1]])


def holds(one, other, table, pair):
    """Whether a pair of numbers is good or in a table."""
    return pair in table or pair_here(one, other, pair) == "good"


def is_answered(one, other, table, ends, behind):
    """Whether each LATENESS of a MOVE is answered by one of another MOVE, by pairs that are good or in a table.

    Of the MOVES the ENDS are told, of the one at the one side, of the answered one at the other side.
    """
    reached = [number for late, number in behind]
    return all([any([holds(one, other, table, (number, across)) for across in reached]) for late, number in ends])


def first_answer(one, other, table, number, behind):
    """The first MOVE at a STANDING of the one side that answers a MOVE with these ENDS, None if none does."""
    for move, ends in one.ticks_at(number):
        if is_answered(one, other, table, ends, behind):
            return move
    return None
