"""TINY TASKS of a SHAPE, by their numbers."""

from washedarms.errors import BadNumber, BadShape
from washedarms.plain import is_between, is_tuple_of

# The least and the greatest number of each thing of a SHAPE but STEPS, which is None here.
BOUNDS = ((1, 2), (1, 2), (1, 2), (1, 2), (0, 1), None, (1, 2), (-1, 2))
SPANS = ((1, 1), (1, 2), (2, 2))


def tiny_count(shape):
    """How many TINY TASKS of a SHAPE there are."""
    need_shape(shape)
    return count_here(shape)


def tiny_task(shape, number):
    """The TINY TASK with this number."""
    need_shape(shape)
    need_tiny(shape, number)
    return task_here(shape, number)


def need_shape(shape):
    """Refuse what is no SHAPE."""
    if not is_tuple_of(shape, 8):
        raise BadShape(shape)
    for thing, bounds in zip(shape, BOUNDS):
        if not (is_steps(thing) if bounds is None else is_between(thing, bounds[0], bounds[1])):
            raise BadShape(shape)


def is_steps(value):
    """Whether a value is a tuple of one or two numbers of steps."""
    return type(value) is tuple and 1 <= len(value) <= 2 and all([is_between(steps, 1, 2) for steps in value])


def need_tiny(shape, number):
    """Refuse what is no number of a TINY TASK."""
    if not is_between(number, 0, count_here(shape) - 1):
        raise BadNumber(number)


def choices_of(shape):
    """For each choice of a TINY TASK, in order, the tuple of what can be chosen."""
    stuffs, states, tools, arms, zones, steps, high, window = shape
    behind = tuple(range(states))
    rows = [behind] * stuffs + [(None,) + behind] * (stuffs * (states - 1)) + [((0,), (0, 1))] * (states - 1)
    spans = tuple([span for span in SPANS if span[1] <= high])
    rows = rows + [spans]
    step = [tuple(range(stuffs)), ((0,), (0, 1), (1,)) if tools == 2 else ((0,),),
            ((), (0,)) if zones == 1 else ((),), spans]
    for many in steps:
        rows = rows + step + (step + [(None,) + tuple(range(window + 1))]) * (many - 1)
    return rows


def count_here(shape):
    """How many TINY TASKS of a right SHAPE there are."""
    count = 1
    for choices in choices_of(shape):
        count = count * len(choices)
    return count


def task_here(shape, number):
    """The TINY TASK with a right number."""
    picks = []
    # The last choice is the least weighty digit.
    for choices in choices_of(shape)[::-1]:
        number, place = divmod(number, len(choices))
        picks.append(choices[place])
    return built(shape, picks[::-1])


def built(shape, picks):
    """The TINY TASK of these choices."""
    stuffs, states, tools, arms, zones, steps, high, window = shape
    meets = tuple([tuple(picks[stuffs * state:stuffs * (state + 1)]) for state in range(states)])
    left = picks[stuffs * states:]
    after = ((0,),) + tuple(left[:states - 1])
    lab = (meets, ((after,) + left[states - 1],), tools, arms, zones)
    left = left[states:]
    samples = []
    for many in steps:
        # The first step has four choices, each other one has five.
        wide = 5 * many - 1
        samples.append(built_sample(left[:wide]))
        left = left[wide:]
    return (lab, tuple(samples))


def built_sample(picks):
    """The SAMPLE of these choices."""
    steps, windows = [], []
    while picks:
        steps.append(tuple(picks[:3]) + picks[3])
        # Nothing is ahead of the first step, so it has no choice of a window.
        windows.append(picks[4] if windows else None)
        picks = picks[5 if len(windows) > 1 else 4:]
    return (tuple(steps), tuple(windows))


def picks_of(task):
    """The choices of a TASK with one wash, if it is a TINY TASK of a SHAPE."""
    meets, washes, tools, arms, zones = task[0]
    picks = [behind for row in meets for behind in row] + list(washes[0][0][1:]) + [washes[0][1:]]
    for steps, windows in task[1]:
        for number, step in enumerate(steps):
            picks = picks + list(step[:3]) + [step[3:]] + ([windows[number]] if number > 0 else [])
    return picks
