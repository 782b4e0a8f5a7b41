"""The form of a LOG: what its ENTRIES may be, whatever can come of them."""

from washedarms.dues import MOST_DUE
from washedarms.errors import BadEntry, TooGreat
from washedarms.labs import need_lab
from washedarms.plain import ascends, is_between, is_tuple_of, is_worded
from washedarms.slots import SLOTS
from washedarms.tasks import sample_place

MOST_ENTRIES = 400
MOST_NUMBER = 10 ** 18 - 1


def need_entries(lab, entries):
    """Refuse what is no LAB, or what are no ENTRIES of a LOG of it."""
    need_lab(lab)
    if type(entries) is not tuple:
        raise BadEntry(None, "form")
    if len(entries) > MOST_ENTRIES:
        raise TooGreat(MOST_ENTRIES)
    for index, entry in enumerate(entries):
        if not is_entry(lab, entry):
            raise BadEntry(index, "form")


def is_entry(lab, value):
    """Whether a value has the form of an ENTRY."""
    if not is_tuple_of(value, 2):
        return False
    event, words = value
    if type(event) is not tuple or not event or type(event[0]) is not str or event[0] not in FORMS:
        return False
    form = FORMS[event[0]]
    return type(words) is tuple and form(lab, event, words)


def is_number(value):
    """Whether a value is a NUMBER of a LOG."""
    return is_between(value, 0, MOST_NUMBER)


def is_tool(lab, value):
    """Whether a value is a tool of the LAB."""
    return is_between(value, 0, lab[2] - 1)


def is_state(lab, value):
    """Whether a value is a state of the LAB."""
    return is_between(value, 0, len(lab[0]) - 1)


def is_telling(value, word):
    """Whether a value is a pair of this word and a NUMBER."""
    return is_worded(value, word, 2) and is_number(value[1])


def is_ask(lab, event, words):
    """Whether a sample is asked for, and one of the three answers told."""
    if len(event) != 2 or sample_place(lab, event[1]) is not None or not event[1][0] or len(words) != 1:
        return False
    if is_worded(words[0], "full", 1) or is_worded(words[0], "refused", 1):
        return True
    return is_worded(words[0], "promised", 3) and is_number(words[0][1]) and is_between(words[0][2], 1, MOST_DUE)


def is_tick(lab, event, words):
    """Whether a tick is told, with samples that were done then."""
    if len(event) != 3 or type(event[1]) is not tuple or type(event[2]) is not tuple:
        return False
    if not all([is_begin(lab, begin) for begin in event[1]]) or not all([is_ending(lab, pair) for pair in event[2]]):
        return False
    if not all([is_telling(word, "done") for word in words]):
        return False
    return (ascends([begin[0] for begin in event[1]]) and ascends([pair[0] for pair in event[2]])
            and ascends([word[1] for word in words]))


def is_begin(lab, value):
    """Whether a value has the form of a START."""
    if not is_tuple_of(value, 3) or not is_tool(lab, value[0]):
        return False
    if is_worded(value[1:], "step", 2):
        return is_between(value[2], 0, SLOTS - 1)
    return is_worded(value[1:], "wash", 2) and is_between(value[2], 0, len(lab[1]) - 1)


def is_ending(lab, value):
    """Whether a value has the form of a pair of a LATENESS."""
    return is_tuple_of(value, 2) and is_tool(lab, value[0]) and is_state(lab, value[1])


def is_waive(lab, event, words):
    """Whether a promise is waived, and the same NUMBER told."""
    return is_answer(event, words, ("free",))


def is_take(lab, event, words):
    """Whether a sample is to be taken out, and the same NUMBER told with one of the three answers."""
    return is_answer(event, words, ("taken", "needed", "running"))


def is_answer(event, words, told):
    """Whether an EVENT has a NUMBER, and WORDS are one of these words with the same NUMBER."""
    if len(event) != 2 or not is_number(event[1]) or len(words) != 1:
        return False
    return any([is_telling(words[0], word) and words[0][1] == event[1] for word in told])


def is_break(lab, event, words):
    """Whether a tool breaks, and a spoilt sample and promises that are taken back are told."""
    if len(event) != 2 or not is_tool(lab, event[1]):
        return False
    back = words[1:] if words and is_telling(words[0], "spoilt") else words
    if not all([is_telling(word, "back") for word in back]):
        return False
    return len(set([word[1] for word in words])) == len(words)


def is_mend(lab, event, words):
    """Whether a tool is mended, and the same one told."""
    if len(event) != 3 or not is_tool(lab, event[1]) or not is_state(lab, event[2]) or len(words) != 1:
        return False
    return is_worded(words[0], "mended", 2) and is_between(words[0][1], event[1], event[1])


FORMS = {"ask": is_ask, "tick": is_tick, "waive": is_waive, "take": is_take, "break": is_break, "mend": is_mend}
