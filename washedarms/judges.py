"""LOGS of our house, their papers, and the judge of both."""

from washedarms.duechecks import is_due_plan, is_due_table
from washedarms.duepapers import due_plan, due_table
from washedarms.entries import need_entries
from washedarms.errors import BadEvent
from washedarms.housemoves import house_move
from washedarms.houses import house_new
from washedarms.housing import house_step
from washedarms.plain import is_tuple_of
from washedarms.questions import log_questions, questions_of
from washedarms.replays import replay_of


def judged(lab, entries, papers):
    """None of a LOG that breaks no rule, otherwise the index of the first ENTRY that does, and the word for it."""
    need_entries(lab, entries)
    if not is_tuple_of(papers, len(entries)):
        return (None, "paper")
    houses, why = replay_of(lab, entries)
    for index in range(len(houses) - 1):
        if not are_papers(questions_of(houses[index], entries[index], houses[index + 1]), papers[index]):
            return (index, "paper")
    return None if why is None else (len(houses) - 1, why)


def are_papers(questions, value):
    """Whether a value is a tuple with a right paper for each of the questions."""
    if not is_tuple_of(value, len(questions)):
        return False
    for question, paper in zip(questions, value):
        if not is_paper(question, paper):
            return False
    return True


def is_paper(question, paper):
    """Whether a value is a right paper for a question."""
    word, task, standing, dues = question
    if word == "plan":
        return is_due_plan(task, standing, dues, paper)
    return is_due_table(task, standing, dues, paper)


def log_of(lab, events):
    """The ENTRIES of our house at some EVENTS, from its beginning on."""
    house = house_new(lab)
    if type(events) is not tuple:
        raise BadEvent(None)
    entries = []
    for event in events:
        behind, words = house_step(house, event)
        entries.append((told_event(house, event), words))
        house = behind
    return tuple(entries)


def told_event(house, event):
    """A right EVENT of a HOUSE as a LOG tells it."""
    return ("tick", house_move(house), event[1]) if event[0] == "tick" else event


def papers_of(lab, entries):
    """The PAPERS of a LOG, with None in the place of one that there is not."""
    return tuple([tuple([paper_of(question) for question in row]) for row in log_questions(lab, entries)])


def paper_of(question):
    """The paper for a question, None if there is none."""
    word, task, standing, dues = question
    return due_plan(task, standing, dues) if word == "plan" else due_table(task, standing, dues)
