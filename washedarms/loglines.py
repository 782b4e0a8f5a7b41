"""Texts of LOGS, also of those that were cut."""

from washedarms.dues import MOST_DUE
from washedarms.entries import MOST_ENTRIES, MOST_NUMBER, need_entries
from washedarms.errors import BadText
from washedarms.eventlines import event_rows, read_event, reader_of
from washedarms.replays import house_after
from washedarms.tasktexts import lab_rows, read_lab, words_row


def log_text(lab, entries):
    """The TEXT of a LOG."""
    need_entries(lab, entries)
    rows = lab_rows(lab) + ["log"]
    for event, words in entries:
        rows = rows + event_rows(event) + [words_row(["told"] + [part for word in words for part in word])]
    return "\n".join(rows) + "\n"


def read_log(text):
    """The pair of LAB and ENTRIES of which this is the TEXT."""
    return read_whole(reader_of(text), [])


def log_text_fault(text):
    """The first fault of a text as the TEXT of a LOG, None if it is one."""
    try:
        read_log(text)
    except BadText as bad:
        if bad.line is None:
            raise
        return (bad.line, bad.word)
    return None


def mended_log(text):
    """The longest beginning of a text that is the TEXT of a LOG."""
    reader = reader_of(text)
    marks = []
    try:
        read_whole(reader, marks)
    except BadText:
        if not marks:
            raise
    return "".join([words_row(row) + "\n" for row in reader.rows[:marks[-1]]])


def recovered(text):
    """The LAB and the ENTRIES of a mended text, and the HOUSE behind them."""
    lab, entries = read_log(mended_log(text))
    return (lab, entries, house_after(lab, entries))


def read_whole(reader, marks):
    """Read a TEXT whole; behind each line with which a TEXT may end, its line feed told, its number is put to marks."""
    lab = read_lab(reader)
    reader.take(("log",))
    reader.end_row()
    mark(reader, marks)
    entries = []
    while len(entries) < MOST_ENTRIES and reader.ahead() != "":
        entries.append(read_entry(reader, lab))
        mark(reader, marks)
    # Behind the last line feed stands a line with one empty word.
    reader.take(("",))
    reader.end_row()
    reader.end_text()
    return (lab, tuple(entries))


def mark(reader, marks):
    """Put the number of the line that comes next to marks, if a line feed stands ahead of it."""
    if reader.at < len(reader.rows):
        marks.append(reader.at)


def read_entry(reader, lab):
    """Read the lines of an ENTRY."""
    event = read_event(reader, lab, True)
    if event[0] == "ask" and not event[1][0]:
        # A sample that a house is asked for has a step, so another line can't stand here.
        reader.take(("step",))
    reader.take(("told",))
    words = read_words(reader, event)
    reader.end_row()
    return (event, words)


def read_words(reader, event):
    """Read the words that were told at an EVENT."""
    if event[0] == "ask":
        return (read_answer(reader),)
    if event[0] == "tick":
        return read_done(reader)
    if event[0] == "break":
        return read_back(reader)
    if event[0] == "mend":
        choices = ("mended",)
    else:
        choices = ("free",) if event[0] == "waive" else ("taken", "needed", "running")
    word = reader.take(choices)
    reader.take((str(event[1]),))
    return ((word, event[1]),)


def read_answer(reader):
    """Read what was told to an asked sample."""
    word = reader.take(("full", "refused", "promised"))
    if word != "promised":
        return (word,)
    number = reader.take_whole(0, MOST_NUMBER, ())
    return (word, number, reader.take_number(1, MOST_DUE))


def read_done(reader):
    """Read which samples were done."""
    words = []
    least = 0
    while least <= MOST_NUMBER and reader.ahead() == "done":
        words.append((reader.take(("done",)), reader.take_whole(least, MOST_NUMBER, ())))
        least = words[-1][1] + 1
    return tuple(words)


def read_back(reader):
    """Read which sample was spoilt, and which promises were taken back."""
    words = []
    numbers = []
    choices = ("spoilt", "back")
    while reader.ahead() in choices:
        word = reader.take(choices)
        numbers.append(reader.take_whole(0, MOST_NUMBER, numbers))
        words.append((word, numbers[-1]))
        choices = ("back",)
    return tuple(words)
