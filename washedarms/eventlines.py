"""Lines of EVENTS in texts of LOGS and of LIVE HOUSES."""

from washedarms.entries import MOST_NUMBER
from washedarms.errors import BadText
from washedarms.slots import SLOTS
from washedarms.tasktexts import LineReader, read_sample, sample_rows, words_row

WORDS = ("ask", "tick", "waive", "take", "break", "mend")


def reader_of(text):
    """A reader of a text; what is no string is refused."""
    if type(text) is not str:
        raise BadText(None, None)
    return LineReader(text)


def event_rows(event):
    """The lines of a right EVENT, of a tick with or without its MOVE."""
    if event[0] == "ask":
        return ["ask"] + sample_rows(event[1])
    if event[0] != "tick":
        return [words_row(event)]
    words = ["tick"]
    for move in event[1:-1]:
        words = words + [word for begin in move for word in ("start", *begin)]
    return [words_row(words + [word for pair in event[-1] for word in ("end", *pair)])]


def read_event(reader, lab, has_move):
    """Read the lines of an EVENT, of a tick with its MOVE or without."""
    word = reader.take(WORDS)
    if word == "ask":
        reader.end_row()
        return ("ask", read_sample(reader, lab))
    if word == "tick":
        moves = (read_move(reader, lab),) if has_move else ()
        event = ("tick", *moves, read_lateness(reader, lab))
    elif word == "mend":
        tool = reader.take_number(0, lab[2] - 1)
        event = ("mend", tool, reader.take_number(0, len(lab[0]) - 1))
    elif word == "break":
        event = ("break", reader.take_number(0, lab[2] - 1))
    else:
        event = (word, reader.take_whole(0, MOST_NUMBER, ()))
    reader.end_row()
    return event


def read_move(reader, lab):
    """Read the words of a MOVE."""
    move = []
    least = 0
    while least < lab[2] and reader.ahead() == "start":
        reader.take(("start",))
        tool = reader.take_number(least, lab[2] - 1)
        word = reader.take(("step", "wash") if lab[1] else ("step",))
        move.append((tool, word, reader.take_number(0, SLOTS - 1 if word == "step" else len(lab[1]) - 1)))
        least = tool + 1
    return tuple(move)


def read_lateness(reader, lab):
    """Read the words of a LATENESS."""
    late = []
    least = 0
    while least < lab[2] and reader.ahead() == "end":
        reader.take(("end",))
        tool = reader.take_number(least, lab[2] - 1)
        late.append((tool, reader.take_number(0, len(lab[0]) - 1)))
        least = tool + 1
    return tuple(late)
