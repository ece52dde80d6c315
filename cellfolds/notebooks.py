"""A session, and the text of it."""

from cellfolds.lines import Line, written_line


class Session:
    # documents[p] is the document at position p, so documents[0] is the base.
    # A step is a list of the lines that tell its edits.
    def __init__(self):
        self.seed = 0
        self.next_number = 1
        self.documents = [[]]
        self.steps = []
        self.position = 0


def step_lines(steps):
    lines = []
    for step in steps:
        lines.append(Line("step", []))
        lines.extend(step)
    return lines


def session_lines(session):
    lines = [
        Line("notebook 1", []),
        Line("seed", [session.seed]),
        Line("next", [session.next_number]),
    ]
    for cell in session.documents[0]:
        lines.append(Line("cell", [cell.number, cell.mark, cell.text]))
    lines.extend(step_lines(session.steps[:session.position]))
    lines.append(Line("here", []))
    lines.extend(step_lines(session.steps[session.position:]))
    lines.append(Line("end", []))
    return lines


def session_text(session):
    text = []
    for line in session_lines(session):
        text.extend(written_line(line))
    return text
