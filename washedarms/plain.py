"""Checks of plain values that several modules share.

True and False, and objects that only look like integers or tuples, are told
from plain ones by their class alone, so that no method of theirs is called.
"""


def is_between(value, low, high):
    """Whether a value is an integer from low to high."""
    return type(value) is int and low <= value <= high


def is_from(value, low):
    """Whether a value is an integer of at least low."""
    return type(value) is int and value >= low


def is_tuple_of(value, many):
    """Whether a value is a tuple of so many things."""
    return type(value) is tuple and len(value) == many


def is_worded(value, word, many):
    """Whether a value is a tuple of so many things that begins with this word."""
    return is_tuple_of(value, many) and type(value[0]) is str and value[0] == word


def ascending_fault(values, low, high):
    """The index of the first of the values that is no integer from low to high, or not above the one ahead."""
    for index, value in enumerate(values):
        if not is_between(value, low, high):
            return index
        if index > 0 and value <= values[index - 1]:
            return index
    return None


def is_ascending(value, low, high):
    """Whether a value is an ascending tuple of integers from low to high."""
    return type(value) is tuple and ascending_fault(value, low, high) is None


def is_permutation(value, many):
    """Whether a value is a tuple with the numbers from 0 to one less than so many, each once."""
    return (is_tuple_of(value, many) and all([is_between(number, 0, many - 1) for number in value])
            and sorted(value) == list(range(many)))


def ascends(values):
    """Whether each of the values, which can be compared, is greater than the one ahead of it."""
    return all([values[index] < values[index + 1] for index in range(len(values) - 1)])


def replaced(things, index, new):
    """Things with another one at an index."""
    return things[:index] + (new,) + things[index + 1:]


def span_fault(low, high):
    """0 if low is wrong as a LOW, 1 if high is wrong as its HIGH, otherwise None."""
    if not is_between(low, 1, 6):
        return 0
    if not is_between(high, low, 6):
        return 1
    return None
