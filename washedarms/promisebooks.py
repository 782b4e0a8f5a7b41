"""The PROMISE BOOK of a LIVE HOUSE: what became of each promise."""

ENDINGS = ("done", "free", "back", "taken", "spoilt")


def promises(live):
    """The rows of the PROMISE BOOK."""
    entries = live.past()
    rows = []
    ticks = 0
    for index, (event, words) in enumerate(entries):
        ticks += ticks_in(event)
        for word in words:
            if word[0] == "promised":
                rows.append((word[1], word[2], ticks, end_of(live, word[1], ticks, entries[index + 1:])))
    return tuple(rows)


def ticks_in(event):
    """How many ticks go by an EVENT."""
    return 1 if event[0] == "tick" else 0


def end_of(live, number, ticks, entries):
    """The END of a promise, told so many ticks after the beginning and ahead of these entries."""
    for event, words in entries:
        ticks += ticks_in(event)
        ends = [word[0] for word in words if word[0] in ENDINGS and word[1] == number]
        if ends:
            return (ends[0], ticks)
    slots = [slot for told, slot in live.house[4] if told == number]
    return ("open", live.house[3][slots[0]])
