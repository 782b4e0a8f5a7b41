"""Texts of STANDINGS of a TASK."""

from washedarms.errors import BadText
from washedarms.forms import need_standing, pairs_for, positions
from washedarms.tasks import need_task
from washedarms.tasktexts import LineReader, words_row


def standing_text(task, standing):
    """The TEXT of a STANDING."""
    need_standing(task, standing)
    rows = [position_words(position) for position in standing[0]] + [pair_words(pair) for pair in standing[1]]
    return "\n".join([words_row(row) for row in rows])


def read_standing(task, text):
    """The STANDING of the TASK of which this is the TEXT."""
    need_task(task)
    if type(text) is not str:
        raise BadText(None, None)
    reader = LineReader(text)
    rests = ()
    for sample in task[1]:
        choices = {position_words(position): position for position in positions(sample)}
        rests = rests + (choices[reader.take_row(choices)],)
    pairs = ()
    for _ in range(task[0][2]):
        # What the tools ahead do bounds what may stand next, so each line is read by its own choices.
        choices = {pair_words(pair): pair for pair in pairs_for(task, rests, pairs)}
        pairs = pairs + (choices[reader.take_row(choices)],)
    reader.end_text()
    return (rests, pairs)


def standing_text_fault(task, text):
    """The first fault of a text as the TEXT of a STANDING of the TASK."""
    try:
        read_standing(task, text)
    except BadText as bad:
        if bad.line is None:
            raise
        return (bad.line, bad.word)
    return None


def position_words(position):
    """The words of a sample's line."""
    return ("sample", str(position[0]), str(position[1]))


def pair_words(pair):
    """The words of a tool's line."""
    state, job = pair
    words = ("idle",) if job == () else tuple([str(word) for word in job])
    return ("tool", str(state)) + words
