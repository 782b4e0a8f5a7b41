"""Classes of like states, round by round, and the ONE FORM of a laboratory.

MEETS and AFTERS are looked at apart from the rest of a LAB, so that two
laboratories can be put side by side although this has too many states.
"""

from washedarms.errors import BadPair
from washedarms.labs import need_lab, stuff_count


def like_classes(lab):
    """The numbers of all states in the last round."""
    last = all_rounds(need_lab(lab))[-1]
    return tuple([last[state] for state in range(len(lab[0]))])


def like_rounds(lab):
    """How many rounds have more numbers than the round ahead."""
    return len(all_rounds(need_lab(lab))) - 1


def one_form(lab):
    """The ONE FORM, and for each state its number there, None if it doesn't come."""
    need_lab(lab)
    coming = coming_states(lab)
    last = rounds_of(lab[0], afters_of(lab), coming)[-1]
    order = [last[0]] + [number for number in sorted(set(list(last.values()))) if number != last[0]]
    places = {number: place for place, number in enumerate(order)}
    numbers = tuple([places[last[state]] if state in last else None for state in range(len(lab[0]))])
    # Like states are led over alike, so the least one of each class serves.
    states = [numbers.index(place) for place in range(len(order))]
    return (led_over(lab, states, numbers), numbers)


def first_unlike_round(lab, other):
    """The first round in which the clean states of two laboratories side by side are unlike, or None."""
    need_lab(lab)
    need_lab(other)
    if stuff_count(lab) != stuff_count(other) or len(lab[1]) != len(other[1]):
        raise BadPair()
    behind = len(lab[0])
    meets = lab[0] + tuple([shifted(row, behind) for row in other[0]])
    afters = [one + tuple([shifted(results, behind) for results in two])
              for one, two in zip(afters_of(lab), afters_of(other))]
    for number, numbers in enumerate(rounds_of(meets, afters, list(range(len(meets))))):
        if numbers[0] != numbers[behind]:
            return number
    return None


def shifted(values, many):
    """States, and None among them, with numbers that are so much greater."""
    return tuple([None if value is None else value + many for value in values])


def afters_of(lab):
    """The AFTERS of all washes of a laboratory."""
    return [wash[0] for wash in lab[1]]


def all_rounds(lab):
    """The rounds of all states of a laboratory."""
    return rounds_of(lab[0], afters_of(lab), list(range(len(lab[0]))))


def rounds_of(meets, afters, states):
    """The rounds of these states, to the last one: of each the numbers by the states."""
    numbers = {state: 0 for state in states}
    rounds = [numbers]
    many = 1
    while True:
        signs = {state: sign_of(meets, afters, numbers, state) for state in numbers}
        unlike = sorted(set(list(signs.values())))
        if len(unlike) == many:
            return rounds
        places = {sign: place for place, sign in enumerate(unlike)}
        numbers = {state: places[signs[state]] for state in signs}
        rounds = rounds + [numbers]
        many = len(unlike)


def sign_of(meets, afters, numbers, state):
    """The SIGN of a state by the numbers of the round ahead."""
    touched = tuple([-1 if behind is None else numbers[behind] for behind in meets[state]])
    washed = tuple([numbers_in(after[state], numbers) for after in afters])
    return (numbers[state], touched, washed)


def numbers_in(states, numbers):
    """The numbers of these states, ascending, without doubles."""
    return tuple(sorted({numbers[state] for state in states}))


def coming_states(lab):
    """The states that come, ascending."""
    found = {}
    ahead = [0]
    while ahead:
        state = ahead.pop()
        if state not in found:
            found[state] = True
            ahead = ahead + [behind for behind in lab[0][state] if behind is not None]
            for after in afters_of(lab):
                ahead = ahead + list(after[state])
    return sorted(found)


def led_over(lab, states, numbers):
    """The laboratory of these states alone, each state in it told by its new number."""
    meets = tuple([tuple([None if behind is None else numbers[behind] for behind in lab[0][state]])
                   for state in states])
    washes = [(tuple([numbers_in(after[state], numbers) for state in states]), low, high)
              for after, low, high in lab[1]]
    return (meets, tuple(washes)) + lab[2:]
