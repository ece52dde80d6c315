"""What the tests share: texts as rows of bytes, calls laid into one list, answers taken apart."""

from cellfolds.sessions import answers

# The document's own example: one done step that makes cell 1 with the text "a.
EXAMPLE = 'notebook 1\nseed 7\nnext 2\nstep\nmake 1 0 "\\"a"\nhere\nend\n'
NEW = "notebook 1\nseed 0\nnext 1\nhere\nend\n"


def row(text):
    return [ord(sign) for sign in text] if isinstance(text, str) else list(text)


def lines(*texts):
    return "".join(text + "\n" for text in texts)


def session(*texts, seed=0, upto=50):
    """The text of a session whose lines behind the next line, but `end`, are the ones told."""
    return lines("notebook 1", f"seed {seed}", f"next {upto}", *texts, "end")


def with_row(number, text):
    numbers = row(text)
    return [number, len(numbers)] + numbers


def read(text):
    return with_row(0, text)


def check(text):
    return with_row(1, text)


def do(*texts):
    return with_row(4, lines(*texts))


def do_row(numbers):
    return with_row(4, numbers)


def seed(number):
    return [3, number]


def to(position):
    return [7, position]


def fold(position):
    return [8, position]


def append(text):
    return with_row(9, text)


def at(position):
    return [11, position]


def same(text):
    return with_row(13, text)


WRITE = [2]
UNDO = [5]
REDO = [6]
WHOLE = [10]
STATE = [12]


def taken_apart(told):
    apart = []
    place = 0
    while place < len(told):
        count = told[place]
        apart.append(told[place + 1:place + 1 + count])
        place += 1 + count
    return apart


def ask(*calls):
    """The answers of the calls, a list each."""
    laid = []
    for call in calls:
        laid += call
    return taken_apart(answers(laid))


def written(*calls):
    """The session's text behind the calls."""
    answer = ask(*calls, WRITE)[-1]
    assert answer[0] == len(answer) - 1
    return "".join(chr(byte) for byte in answer[1:])


def state(*calls):
    """The five numbers behind the calls."""
    return ask(*calls, STATE)[-1]


def whole(*calls):
    """The document behind the calls, as it is told."""
    return ask(*calls, WHOLE)[-1]


def marked(text):
    """A text without its sign @, and the place where that stood."""
    return text.replace("@", ""), text.index("@")


def quoted(text):
    signs = {10: "\\n", 34: '\\"', 92: "\\\\"}
    return "".join(signs.get(byte, chr(byte) if 32 <= byte <= 126 else f"\\x{byte:02x}") for byte in row(text))


def cell_lines(cells):
    return [f'cell {number} {mark} "{quoted(text)}"' for number, mark, text in cells]


def told(cells):
    """A document as it is told, from its cells' numbers, marks and texts."""
    numbers = [len(cells)]
    for number, mark, text in cells:
        numbers += [number, mark, len(text), *row(text)]
    return numbers


def step_lines(steps, done):
    """The lines of a history from its first step to its last, with `here` behind the done ones."""
    parts = [["step", *step] for step in steps]
    parts.insert(done, ["here"])
    return [line for part in parts for line in part]


# A history of five steps, and the document at each position.
STEPS = [
    ['make 7 5 "x"', "hide 2 1"],
    ["split 5 1 8", "swap 7 2"],
    ["drop 2"],
    ["move 7 0", 'write 8 "\\x00"'],
    ["join 7"],
]
DOCUMENTS = [
    [(5, 1, "ab"), (2, 0, "c\n")],
    [(5, 1, "ab"), (7, 0, "x"), (2, 1, "c\n")],
    [(5, 1, "a"), (8, 1, "b"), (2, 1, "c\n"), (7, 0, "x")],
    [(5, 1, "a"), (8, 1, "b"), (7, 0, "x")],
    [(7, 0, "x"), (5, 1, "a"), (8, 1, "\0")],
    [(7, 0, "xa"), (8, 1, "\0")],
]


def sample(position, first=0, seed=3, upto=20):
    """The text of a session with this history, its first steps folded, the one at the position being its document."""
    return session(*cell_lines(DOCUMENTS[first]), *step_lines(STEPS[first:], position - first), seed=seed, upto=upto)
