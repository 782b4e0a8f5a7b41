"""The errors of the package: each one keeps what it is made of."""


class LabError(ValueError):
    """What all errors of the package are."""


class BadNumber(LabError):
    """A number that is refused."""

    def __init__(self, value):
        self.value = value


class BadTicks(LabError):
    """A number of ticks that is refused."""

    def __init__(self, value):
        self.value = value


class BadLength(LabError):
    """A length that is refused."""

    def __init__(self, value):
        self.value = value


class TooGreat(LabError):
    """More than this many things would have to be looked at."""

    def __init__(self, most):
        self.most = most


class BadLab(LabError):
    """A value that is no LAB, with its fault."""

    def __init__(self, word, place):
        self.word = word
        self.place = place


class BadTask(LabError):
    """A value that is no TASK, with its fault."""

    def __init__(self, word, place):
        self.word = word
        self.place = place


class BadStanding(LabError):
    """A value that is no STANDING of the TASK, with its fault."""

    def __init__(self, word, place):
        self.word = word
        self.place = place


class BadState(LabError):
    """A value that is no state of the laboratory."""

    def __init__(self, value):
        self.value = value


class BadTool(LabError):
    """A value that is no tool that is asked for."""

    def __init__(self, value):
        self.value = value


class BadSample(LabError):
    """A value that is no sample that is asked for."""

    def __init__(self, value):
        self.value = value


class BadStep(LabError):
    """A value that names no step that is asked for."""

    def __init__(self, value):
        self.value = value


class BadPair(LabError):
    """Two laboratories that can't be put side by side."""


class BadText(LabError):
    """A text that can't be read, with its first fault."""

    def __init__(self, line, word):
        self.line = line
        self.word = word


class BadRow(LabError):
    """A value that is no row of stuffs that is asked for."""

    def __init__(self, value):
        self.value = value


class BadLot(LabError):
    """A value that is no LOT of the laboratory."""

    def __init__(self, value):
        self.value = value


class BadDealing(LabError):
    """A value that is no DEALING of the TASK."""

    def __init__(self, value):
        self.value = value


class NotPlain(LabError):
    """A laboratory that isn't PLAIN."""


class NeverClean(LabError):
    """A laboratory in which no wash surely cleans."""


class NotEven(LabError):
    """A TASK that isn't EVEN."""


class BadMove(LabError):
    """A value that is no MOVE at the STANDING."""

    def __init__(self, value):
        self.value = value


class BadLateness(LabError):
    """A value that is no LATENESS of the MOVE."""

    def __init__(self, value):
        self.value = value


class Broken(LabError):
    """A STANDING that is broken: nothing follows it."""


class BadRun(LabError):
    """A value that can't be played as a RUN."""

    def __init__(self, index, why):
        self.index = index
        self.why = why


class BadChart(LabError):
    """A value that is no CHART."""

    def __init__(self, why):
        self.why = why


class BadDues(LabError):
    """A value that isn't DUES."""

    def __init__(self, place):
        self.place = place


class BadPaper(LabError):
    """A value that is no such paper."""

    def __init__(self, name, index, why):
        self.name = name
        self.index = index
        self.why = why


class NoRow(LabError):
    """A STANDING of which a paper has no row."""

    def __init__(self, standing):
        self.standing = standing


class BadHistory(LabError):
    """A value that is no HISTORY that is asked for."""

    def __init__(self, value):
        self.value = value


class BadOrder(LabError):
    """A value that is no ORDER."""

    def __init__(self, word, place):
        self.word = word
        self.place = place


class Unsound(LabError):
    """An ORDER that isn't SOUND."""

    def __init__(self, fault):
        self.fault = fault


class BadFate(LabError):
    """A value that is no FATE, with the first job that it doesn't tell."""

    def __init__(self, job):
        self.job = job


class BadList(LabError):
    """A value that is no LIST."""

    def __init__(self, value):
        self.value = value


class NotOpen(LabError):
    """A TASK that isn't OPEN."""


class BadRenaming(LabError):
    """A value that is no RENAMING."""


class BadSymmetry(LabError):
    """A RENAMING that is no SYMMETRY."""


class BadCover(LabError):
    """A value that is no COVER."""

    def __init__(self, which, index, why):
        self.which = which
        self.index = index
        self.why = why


class NotEasier(LabError):
    """A TASK that isn't easier than another one."""


class BadEvent(LabError):
    """A value that is no EVENT."""

    def __init__(self, word):
        self.word = word


class BadHouse(LabError):
    """A value that is no HOUSE."""

    def __init__(self, number):
        self.number = number


class BadEntry(LabError):
    """A LOG with an ENTRY that can't be."""

    def __init__(self, index, why):
        self.index = index
        self.why = why


class BadShape(LabError):
    """A value that is no SHAPE."""

    def __init__(self, shape):
        self.shape = shape


class BadWish(LabError):
    """A value that is no WISH."""

    def __init__(self, value):
        self.value = value


class BadWhat(LabError):
    """A value that is no WHAT of the TASK."""

    def __init__(self, what):
        self.what = what
