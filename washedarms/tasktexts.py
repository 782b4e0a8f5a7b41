"""Texts of TASKS, and a reader of lines of words that other texts use, too."""

from washedarms.errors import BadText
from washedarms.labs import stuff_count
from washedarms.tasks import need_task


class LineReader:
    """Reads a text word by word; what can't stand next is refused with its place.

    Most numbers in a text are one of a few, so words are compared with what
    may stand there and a number of thousands of figures is never worked out.
    """

    def __init__(self, text):
        self.rows = [row.split(" ") for row in text.split("\n")]
        self.at = 0
        self.column = 0

    def ahead(self):
        """The next word of the line, None if the line, or the text, is at its end."""
        if self.at == len(self.rows) or self.column == len(self.rows[self.at]):
            return None
        return self.rows[self.at][self.column]

    def take(self, words):
        """The next word, which must be one of these."""
        word = self.ahead()
        if word not in words:
            raise BadText(self.at, self.column)
        self.column += 1
        return word

    def take_number(self, low, high):
        """The next word, which must be a number from low to high."""
        return int(self.take([str(number) for number in range(low, high + 1)]))

    def take_whole(self, low, high, besides):
        """The next word, which must be a number from low to high, which may be a great one, and none of some others."""
        word = self.ahead()
        # A word of thousands of figures must not be worked out.
        if not is_whole(word) or len(word) > len(str(high)):
            raise BadText(self.at, self.column)
        number = int(word)
        if not low <= number <= high or number in besides:
            raise BadText(self.at, self.column)
        self.column += 1
        return number

    def take_ascending(self, low, high, most, ending):
        """Ascending numbers, at least one and so many at most, up to the ending, which is left."""
        found = [self.take_number(low, high)]
        while len(found) < most and self.ahead() != ending:
            found = found + [self.take_number(found[-1] + 1, high)]
        return tuple(found)

    def take_row(self, rows):
        """A whole line, one of these tuples of words, of which none is the beginning of another one."""
        taken = ()
        while taken not in rows:
            many = len(taken)
            taken = taken + (self.take([row[many] for row in rows if row[:many] == taken]),)
        self.end_row()
        return taken

    def end_row(self):
        """Go on to the next line; this one must be at its end."""
        if self.ahead() is not None:
            raise BadText(self.at, self.column)
        self.at += 1
        self.column = 0

    def end_text(self):
        """See that there is no further line."""
        if self.at < len(self.rows):
            raise BadText(self.at, self.column)


def task_text(task):
    """The TEXT of a TASK."""
    need_task(task)
    rows = lab_rows(task[0])
    for sample in task[1]:
        rows = rows + sample_rows(sample)
    return "\n".join(rows)


def read_task(text):
    """The TASK of which this is the TEXT."""
    if type(text) is not str:
        raise BadText(None, None)
    reader = LineReader(text)
    lab = read_lab(reader)
    samples = []
    while len(samples) < 4 and reader.ahead() == "sample":
        samples = samples + [read_sample(reader, lab)]
    reader.end_text()
    return (lab, tuple(samples))


def task_text_fault(text):
    """The first fault of a text as the TEXT of a TASK."""
    try:
        read_task(text)
    except BadText as bad:
        if bad.line is None:
            raise
        return (bad.line, bad.word)
    return None


def is_whole(word):
    """Whether the next word of a line, None where there is none, is an integer in figures, without needless zeros."""
    if word is None or word == "" or not all([sign in "0123456789" for sign in word]):
        return False
    return word == "0" or word[0] != "0"


def lab_rows(lab):
    """The lines of a LAB."""
    rows = [words_row(["lab", len(lab[0]), stuff_count(lab), lab[2], lab[3], lab[4]])]
    for row in lab[0]:
        rows = rows + [words_row(["state"] + ["-" if behind is None else behind for behind in row])]
    for after, low, high in lab[1]:
        rows = rows + [words_row(["wash", low, high])]
        rows = rows + [words_row(["leaves", *results]) for results in after]
    return rows


def sample_rows(sample):
    """The lines of a SAMPLE."""
    rows = ["sample"]
    for number, step in enumerate(sample[0]):
        window = sample[1][number]
        if number > 0:
            rows = rows + [words_row(["window", "none" if window is None else window])]
        rows = rows + [step_row(step)]
    return rows


def step_row(step):
    """The line of a STEP."""
    stuff, tools, zones, low, high = step
    return words_row(["step", stuff, "tools", *tools, "zones", *zones, "ticks", low, high])


def words_row(words):
    """A line of words and numbers."""
    return " ".join([str(word) for word in words])


def read_lab(reader):
    """Read the lines of a LAB."""
    reader.take(("lab",))
    states = reader.take_number(1, 8)
    stuffs = reader.take_number(1, 8)
    tools = reader.take_number(1, 3)
    arms = reader.take_number(1, 3)
    zones = reader.take_number(0, 4)
    reader.end_row()
    meets = tuple([read_state(reader, state, states, stuffs) for state in range(states)])
    washes = []
    while len(washes) < 3 and reader.ahead() == "wash":
        washes = washes + [read_wash(reader, states)]
    return (meets, tuple(washes), tools, arms, zones)


def read_state(reader, state, states, stuffs):
    """Read the line of a state: its row of MEETS."""
    reader.take(("state",))
    words = [str(behind) for behind in range(states)]
    if state > 0:
        words = words + ["-"]
    row = [reader.take(words) for _ in range(stuffs)]
    reader.end_row()
    return tuple([None if word == "-" else int(word) for word in row])


def read_wash(reader, states):
    """Read the lines of a wash."""
    reader.take(("wash",))
    low, high = read_span(reader)
    after = tuple([read_results(reader, states) for _ in range(states)])
    return (after, low, high)


def read_results(reader, states):
    """Read the line of the states that a wash may leave."""
    reader.take(("leaves",))
    results = reader.take_ascending(0, states - 1, 3, None)
    reader.end_row()
    return results


def read_span(reader):
    """Read LOW and HIGH, behind which the line ends."""
    low = reader.take_number(1, 6)
    high = reader.take_number(low, 6)
    reader.end_row()
    return (low, high)


def read_sample(reader, lab):
    """Read the lines of a SAMPLE."""
    reader.take(("sample",))
    reader.end_row()
    steps, windows = [], []
    while len(steps) < 4 and reader.ahead() == ("window" if steps else "step"):
        windows = windows + [read_window(reader) if steps else None]
        steps = steps + [read_step(reader, lab)]
    return (tuple(steps), tuple(windows))


def read_window(reader):
    """Read the line of a window."""
    reader.take(("window",))
    word = reader.take([str(ticks) for ticks in range(7)] + ["none"])
    reader.end_row()
    return None if word == "none" else int(word)


def read_step(reader, lab):
    """Read the line of a STEP."""
    reader.take(("step",))
    stuff = reader.take_number(0, stuff_count(lab) - 1)
    reader.take(("tools",))
    tools = reader.take_ascending(0, lab[2] - 1, lab[2], "zones")
    reader.take(("zones",))
    zones = ()
    if reader.ahead() != "ticks":
        zones = reader.take_ascending(0, lab[4] - 1, lab[4], "ticks")
    reader.take(("ticks",))
    low, high = read_span(reader)
    return (stuff, tools, zones, low, high)
