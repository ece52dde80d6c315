"""Reading texts strictly: the text of a session, and lines of edits."""

from cellfolds.documents import CELL_LIMIT, NUMBER_LIMIT, Cell, edited, made_number, place_of, replaces_nothing
from cellfolds.lines import EDIT_WORDS, Fault, Scanner, read_line
from cellfolds.notebooks import Session

STEP_LIMIT = 20
EDIT_LIMIT = 10

NO_FAULT = 0
OUT_OF_RANGE = 2
CANNOT_BE_DONE = 3
BEHIND_END = 4


class Reader:
    def __init__(self):
        self.session = Session()
        # The words of the lines that may come next.
        self.awaited = ("notebook 1",)
        # The greatest of the numbers of base cells and the numbers made so far.
        self.greatest = 0
        # The line that closes the steps: here for the done ones, then end for the undone ones.
        self.closing = "here"


# Each of these takes one line into the session, or leaves it out and answers the kind of its fault.

def take_notebook(reader, line):
    reader.awaited = ("seed",)
    return NO_FAULT


def take_seed(reader, line):
    session = reader.session
    session.seed = line.parts[0]
    reader.awaited = ("next",)
    return NO_FAULT


def take_next(reader, line):
    session = reader.session
    if not 1 <= line.parts[0] <= NUMBER_LIMIT + 1:
        return OUT_OF_RANGE
    session.next_number = line.parts[0]
    reader.awaited = ("cell", "step", "here")
    return NO_FAULT


def take_cell(reader, line):
    base = reader.session.documents[0]
    number = line.parts[0]
    if len(base) == CELL_LIMIT or place_of(base, number) is not None:
        return OUT_OF_RANGE
    # No number above 99 gets past this, as the next number is at most 100.
    if not 1 <= number < reader.session.next_number:
        return OUT_OF_RANGE
    base.append(Cell(number, line.parts[1], line.parts[2]))
    reader.greatest = max(reader.greatest, number)
    return NO_FAULT


def take_step(reader, line):
    session = reader.session
    if len(session.steps) == STEP_LIMIT:
        return OUT_OF_RANGE
    session.steps.append([])
    session.documents.append(session.documents[-1])
    reader.awaited = EDIT_WORDS
    return NO_FAULT


def may_make(reader, number):
    return reader.greatest < number < reader.session.next_number


def take_edit(reader, line):
    session = reader.session
    number = made_number(line)
    if len(session.steps[-1]) == EDIT_LIMIT or replaces_nothing(line):
        return OUT_OF_RANGE
    if number is not None and not may_make(reader, number):
        return OUT_OF_RANGE
    document = edited(session.documents[-1], line)
    if document is None:
        return CANNOT_BE_DONE
    session.documents[-1] = document
    session.steps[-1].append(line)
    if number is not None:
        reader.greatest = number
    reader.awaited = EDIT_WORDS + ("step", reader.closing)
    return NO_FAULT


def take_here(reader, line):
    session = reader.session
    session.position = len(session.steps)
    reader.closing = "end"
    reader.awaited = ("step", "end")
    return NO_FAULT


def take_end(reader, line):
    reader.awaited = ()
    return NO_FAULT


TAKERS = {
    "notebook 1": take_notebook,
    "seed": take_seed,
    "next": take_next,
    "cell": take_cell,
    "step": take_step,
    "here": take_here,
    "end": take_end,
}


def take_line(reader, line):
    if line.word in EDIT_WORDS:
        return take_edit(reader, line)
    return TAKERS[line.word](reader, line)


# Raises the first fault of the text, if it has one.
def read_session(text):
    scanner = Scanner(text)
    reader = Reader()
    while reader.awaited != ():
        first = scanner.place
        line = read_line(scanner, reader.awaited)
        kind = take_line(reader, line)
        if kind != NO_FAULT:
            raise Fault(kind, first)
    if not scanner.at_end():
        raise Fault(BEHIND_END, scanner.place)
    return reader.session


# Raises a fault where the text isn't one or more lines of edits.
def read_edits(text):
    scanner = Scanner(text)
    edits = [read_line(scanner, EDIT_WORDS)]
    while not scanner.at_end():
        edits.append(read_line(scanner, EDIT_WORDS))
    return edits
