"""What the tests share: texts as rows of bytes, calls laid into one list, answers taken apart."""

from cellfolds.sessions import answers

# The document's own example: one done step that makes cell 1 with the text "a.
EXAMPLE = 'notebook 1\nseed 7\nnext 2\nstep\nmake 1 0 "\\"a"\nhere\nend\n'
NEW = "notebook 1\nseed 0\nnext 1\nhere\nend\n"


def row(text):
    return [ord(sign) for sign in text] if isinstance(text, str) else list(text)


def lines(*texts):
    return "".join(text + "\n" for text in texts)


def session(*texts, seed=0, upto=50):
    """The text of a session whose lines behind the next line, but `end`, are the ones told."""
    return lines("notebook 1", f"seed {seed}", f"next {upto}", *texts, "end")


def with_row(number, text):
    numbers = row(text)
    return [number, len(numbers)] + numbers


def read(text):
    return with_row(0, text)


def check(text):
    return with_row(1, text)


def do(*texts):
    return with_row(4, lines(*texts))


def do_row(numbers):
    return with_row(4, numbers)


def seed(number):
    return [3, number]


WRITE = [2]
UNDO = [5]
REDO = [6]


def taken_apart(told):
    apart = []
    place = 0
    while place < len(told):
        count = told[place]
        apart.append(told[place + 1:place + 1 + count])
        place += 1 + count
    return apart


def ask(*calls):
    """The answers of the calls, a list each."""
    laid = []
    for call in calls:
        laid += call
    return taken_apart(answers(laid))


def written(*calls):
    """The session's text behind the calls."""
    answer = ask(*calls, WRITE)[-1]
    assert answer[0] == len(answer) - 1
    return "".join(chr(byte) for byte in answer[1:])


def marked(text):
    """A text without its sign @, and the place where that stood."""
    return text.replace("@", ""), text.index("@")
