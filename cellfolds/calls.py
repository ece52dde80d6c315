"""The calls on one notebook: each takes its argument and answers a list of whole numbers."""

from cellfolds.documents import NUMBER_LIMIT, edited, made_number, replaces_nothing, told_document
from cellfolds.lines import Fault
from cellfolds.notebooks import Session, session_text
from cellfolds.reading import EDIT_LIMIT, STEP_LIMIT, read_edits, read_session

SEED_LIMIT = 999999999

NOT_THE_LINES = -1
OUT_OF_RANGE = -2
CANNOT_BE_DONE = -3
TOO_MANY_STEPS = -4
NO_POSITION = -5
NOTHING_THERE = -6
SEED_OUT_OF_RANGE = -7
ANOTHER_BASE = -8


class Notebook:
    def __init__(self):
        self.session = Session()


def call_read(notebook, text):
    try:
        notebook.session = read_session(text)
    except Fault as fault:
        return [fault.kind, fault.place]
    return [0]


def call_check(notebook, text):
    # Read into a notebook of its own, a text leaves the one here as it is.
    return call_read(Notebook(), text)


def call_write(notebook, nothing):
    text = session_text(notebook.session)
    return [len(text)] + text


def call_seed(notebook, number):
    if not 0 <= number <= SEED_LIMIT:
        return [SEED_OUT_OF_RANGE]
    session = notebook.session
    session.seed = number
    return [0]


class Trial:
    # What edits make of a session's document and next number, while it isn't settled that they are done.
    def __init__(self, session):
        self.document = session.documents[session.position]
        self.next_number = session.next_number


# Answers the edit's refusal, or 0 where it is done on the trial.
def tried(trial, edit):
    number = made_number(edit)
    if replaces_nothing(edit):
        return OUT_OF_RANGE
    if number is not None and (number != trial.next_number or number > NUMBER_LIMIT):
        return OUT_OF_RANGE
    document = edited(trial.document, edit)
    if document is None:
        return CANNOT_BE_DONE
    trial.document = document
    if number is not None:
        trial.next_number += 1
    return 0


def add_step(session, edits, trial):
    session.steps = session.steps[:session.position] + [edits]
    session.documents = session.documents[:session.position + 1] + [trial.document]
    session.position += 1
    session.next_number = trial.next_number


def call_do(notebook, lines):
    try:
        edits = read_edits(lines)
    except Fault:
        return [NOT_THE_LINES]
    session = notebook.session
    trial = Trial(session)
    for count, edit in enumerate(edits):
        refusal = OUT_OF_RANGE if count == EDIT_LIMIT else tried(trial, edit)
        if refusal != 0:
            return [refusal]
    if session.position == STEP_LIMIT:
        return [TOO_MANY_STEPS]
    add_step(session, edits, trial)
    return [session.position]


def call_undo(notebook, nothing):
    session = notebook.session
    if session.position == 0:
        return [NOTHING_THERE]
    session.position -= 1
    return [session.position]


def call_redo(notebook, nothing):
    session = notebook.session
    if session.position == len(session.steps):
        return [NOTHING_THERE]
    session.position += 1
    return [session.position]


def call_to(notebook, position):
    session = notebook.session
    if not 0 <= position <= len(session.steps):
        return [NO_POSITION]
    session.position = position
    return [len(session.steps) - position]


def call_fold(notebook, position):
    session = notebook.session
    if not 0 <= position <= session.position:
        return [NO_POSITION]
    session.documents = session.documents[position:]
    session.steps = session.steps[position:]
    session.position -= position
    return [len(session.steps)]


def numbers_made(steps):
    numbers = []
    for step in steps:
        for edit in step:
            number = made_number(edit)
            if number is not None:
                numbers.append(number)
    return numbers


# Answers why the other session can't go on from here, or 0 where it can.
def append_refusal(session, other):
    # Told alike, two documents are alike: a told one can be taken apart in one way only.
    if told_document(other.documents[0]) != told_document(session.documents[session.position]):
        return ANOTHER_BASE
    if any([number < session.next_number for number in numbers_made(other.steps)]):
        return OUT_OF_RANGE
    if session.position + len(other.steps) > STEP_LIMIT:
        return TOO_MANY_STEPS
    return 0


def put_behind(session, other):
    session.steps = session.steps[:session.position] + other.steps
    # The other's base is the document here, so it stands there already.
    session.documents = session.documents[:session.position + 1] + other.documents[1:]
    session.position += other.position
    session.next_number = max(session.next_number, other.next_number)


def call_append(notebook, text):
    try:
        other = read_session(text)
    except Fault:
        return [NOT_THE_LINES]
    session = notebook.session
    refusal = append_refusal(session, other)
    if refusal != 0:
        return [refusal]
    put_behind(session, other)
    return [session.position]


def call_whole(notebook, nothing):
    session = notebook.session
    return told_document(session.documents[session.position])


def call_at(notebook, position):
    session = notebook.session
    if not 0 <= position <= len(session.steps):
        return [NO_POSITION]
    return told_document(session.documents[position])


def call_state(notebook, nothing):
    session = notebook.session
    undone = len(session.steps) - session.position
    return [session.seed, session.next_number, session.position, undone, len(session.documents[0])]


def call_same(notebook, text):
    return [1 if text == session_text(notebook.session) else 0]
