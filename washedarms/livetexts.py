"""Texts of LIVE HOUSES."""

from washedarms.errors import BadText, LabError
from washedarms.eventlines import event_rows, read_event, reader_of
from washedarms.livehouses import LiveHouse
from washedarms.tasktexts import lab_rows, read_lab


def live_text(live):
    """The TEXT of a LIVE HOUSE."""
    rows = lab_rows(live.house[0])
    for event, words in live.past():
        rows.extend(event_rows(event))
    if live.ahead():
        rows.append("ahead")
    for event in live.ahead():
        rows.extend(event_rows(event))
    return "\n".join(rows)


def live_of_text(text):
    """The LIVE HOUSE of which this is the TEXT."""
    reader = reader_of(text)
    lab = read_lab(reader)
    past, later = [], []
    while reader.ahead() != "ahead" and reader.at < len(reader.rows):
        past.append((reader.at, read_event(reader, lab, False)))
    if reader.at < len(reader.rows):
        reader.take(("ahead",))
        reader.end_row()
        later.append(read_event(reader, lab, False))
    while reader.at < len(reader.rows):
        later.append(read_event(reader, lab, False))
    return live_from(lab, past, later)


def live_from(lab, past, later):
    """The LIVE HOUSE with these EVENTS done, of each of which the first line is told, and these ones taken back."""
    live = LiveHouse(lab)
    for line, event in past:
        try:
            live.do(event)
        except LabError:
            raise BadText(line, 0) from None
    live.put_ahead(later)
    return live
