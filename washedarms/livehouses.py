"""A LIVE HOUSE: EVENTS done, taken back and done again."""

from washedarms.errors import BadEvent, BadNumber
from washedarms.houses import house_new
from washedarms.housing import house_step
from washedarms.plain import is_between


class LiveHouse:
    """A HOUSE with the ENTRIES that led to it, and the EVENTS that were taken back."""

    def __init__(self, lab):
        self._houses = [house_new(lab)]
        self._entries = []
        self._later = []

    @property
    def house(self):
        """The HOUSE."""
        return self._houses[-1]

    def past(self):
        """The PAST."""
        return tuple(self._entries)

    def ahead(self):
        """The AHEAD, the next EVENT first."""
        return tuple(self._later)

    def do(self, event):
        """Do an EVENT, and tell its WORDS."""
        return self._go([event], [])[0]

    def undo(self, many=1):
        """Take so many entries back, and tell their EVENTS, the latest first."""
        if not is_between(many, 1, len(self._entries)):
            raise BadNumber(many)
        taken = [event for event, words in self._entries[-many:]]
        del self._entries[-many:]
        del self._houses[-many:]
        self._later = taken + self._later
        return tuple(taken[::-1])

    def redo(self, many=1):
        """Do so many EVENTS of AHEAD again, and tell their WORDS."""
        if not is_between(many, 1, len(self._later)):
            raise BadNumber(many)
        return self._go(self._later[:many], self._later[many:])

    def tried(self, events):
        """The HOUSE that would come if EVENTS were done, and the WORDS that would be told."""
        if type(events) is not tuple:
            raise BadEvent(None)
        rows = steps_from(self._houses[-1], events)
        house = rows[-1][0] if rows else self._houses[-1]
        return (house, tuple([words for behind, words in rows]))

    def twin(self):
        """Another LIVE HOUSE with the same HOUSE, PAST and AHEAD."""
        other = LiveHouse(self._houses[0][0])
        other._houses = list(self._houses)
        other._entries = list(self._entries)
        other._later = list(self._later)
        return other

    def put_ahead(self, events):
        """Take EVENTS as the AHEAD: readers of texts do so, as some of these may be refused."""
        self._later = list(events)

    def _go(self, events, later):
        """Do EVENTS in turn, tell their WORDS, and keep the later ones as the AHEAD; or change nothing."""
        rows = steps_from(self._houses[-1], events)
        words = [told for behind, told in rows]
        self._houses.extend([behind for behind, told in rows])
        self._entries.extend([(event, told) for event, told in zip(events, words)])
        self._later = later
        return tuple(words)

    def __contains__(self, number):
        """Whether a sample with this NUMBER is in a slot."""
        return type(number) is int and any([number == told for told, slot in self._houses[-1][4]])


def steps_from(house, events):
    """For each of some EVENTS done in turn the pair of the HOUSE behind it and its WORDS."""
    rows = []
    for event in events:
        rows.append(house_step(house, event))
        house = rows[-1][0]
    return rows
