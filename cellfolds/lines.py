"""The lines of a session's text: how a line is written, and how one is read byte by byte."""

from cellfolds.documents import TEXT_LIMIT

DIGIT_LIMIT = 9

# The kind of fault that a line's own bytes have, whatever it means.
WRONG_LINE = 1

NEWLINE = 10
BLANK = 32
QUOTE = 34
BACKSLASH = 92
LETTER_N = 110
LETTER_X = 120
LAST_PLAIN = 126

# Stands in no line, so it never fits where a byte is asked for.
NO_BYTE = -1

DIGITS = (48, 49, 50, 51, 52, 53, 54, 55, 56, 57)
MARKS = (48, 49)
HEX_DIGITS = (48, 49, 50, 51, 52, 53, 54, 55, 56, 57, 97, 98, 99, 100, 101, 102)
# The bytes from 32 to 111 stand as they are, so 2 to 6 begin no byte written in hex.
FIRST_HEX_DIGITS = (48, 49, 55, 56, 57, 97, 98, 99, 100, 101, 102)
# What may stand behind a backslash: a quote, a backslash, n, x.
ESCAPES = (34, 92, 110, 120)

EDIT_WORDS = ("make", "write", "move", "drop", "hide", "split", "join", "swap", "replace")

# What stands behind each word: N a number, M a mark, T a text.
FIELDS = {
    "notebook 1": "",
    "seed": "N",
    "next": "N",
    "cell": "NMT",
    "step": "",
    "here": "",
    "end": "",
    "make": "NNT",
    "write": "NT",
    "move": "NN",
    "drop": "N",
    "hide": "NM",
    "split": "NNN",
    "join": "N",
    "swap": "NN",
    "replace": "TT",
}


def codes(word):
    return [ord(sign) for sign in word]


def is_plain(byte):
    return BLANK <= byte <= LAST_PLAIN


def is_hexed(byte):
    return byte != NEWLINE and not is_plain(byte)


class Fault(Exception):
    def __init__(self, kind, place):
        self.kind = kind
        self.place = place


class Line:
    # Never changed once it is made: histories share their lines.
    def __init__(self, word, parts):
        self.word = word
        self.parts = parts


class Scanner:
    def __init__(self, row):
        self.row = row
        self.place = 0

    def at_end(self):
        return self.place == len(self.row)

    def peek(self):
        return NO_BYTE if self.at_end() else self.row[self.place]

    def take(self, choices):
        byte = self.peek()
        if byte not in choices:
            raise Fault(WRONG_LINE, self.place)
        self.place += 1
        return byte

    def take_plain(self):
        byte = self.peek()
        if not is_plain(byte):
            raise Fault(WRONG_LINE, self.place)
        self.place += 1
        return byte


def written_byte(byte):
    if byte == NEWLINE:
        return [BACKSLASH, LETTER_N]
    if byte == QUOTE or byte == BACKSLASH:
        return [BACKSLASH, byte]
    if is_hexed(byte):
        return [BACKSLASH, LETTER_X, HEX_DIGITS[byte // 16], HEX_DIGITS[byte % 16]]
    return [byte]


def written_text(text):
    written = [QUOTE]
    for byte in text:
        written.extend(written_byte(byte))
    written.append(QUOTE)
    return written


def written_line(line):
    written = codes(line.word)
    for kind, part in zip(FIELDS[line.word], line.parts):
        written.append(BLANK)
        written.extend(written_text(part) if kind == "T" else codes(str(part)))
    written.append(NEWLINE)
    return written


def agreeing(scanner, signs):
    count = 0
    behind = scanner.row[scanner.place:scanner.place + len(signs)]
    while count < len(behind) and behind[count] == signs[count]:
        count += 1
    return count


# No word begins with another one, so the first that stands here whole is the only one.
def read_word(scanner, words):
    farthest = 0
    for word in words:
        count = agreeing(scanner, codes(word))
        if count == len(word):
            scanner.place += count
            return word
        farthest = max(farthest, count)
    raise Fault(WRONG_LINE, scanner.place + farthest)


def read_number(scanner):
    number = scanner.take(DIGITS) - DIGITS[0]
    count = 1
    # Behind a leading 0 the number is over, whatever stands there.
    while number > 0 and count < DIGIT_LIMIT and scanner.peek() in DIGITS:
        number = 10 * number + scanner.take(DIGITS) - DIGITS[0]
        count += 1
    return number


def read_hexed(scanner):
    high = 16 * HEX_DIGITS.index(scanner.take(FIRST_HEX_DIGITS))
    lows = [digit for low, digit in enumerate(HEX_DIGITS) if is_hexed(high + low)]
    return high + HEX_DIGITS.index(scanner.take(lows))


def read_byte(scanner):
    byte = scanner.take_plain()
    if byte != BACKSLASH:
        return byte
    escape = scanner.take(ESCAPES)
    if escape == LETTER_N:
        return NEWLINE
    if escape == LETTER_X:
        return read_hexed(scanner)
    return escape


def read_text(scanner):
    scanner.take((QUOTE,))
    text = []
    while len(text) < TEXT_LIMIT and scanner.peek() != QUOTE:
        text.append(read_byte(scanner))
    scanner.take((QUOTE,))
    return text


def read_part(scanner, kind):
    if kind == "N":
        return read_number(scanner)
    if kind == "M":
        return scanner.take(MARKS) - MARKS[0]
    return read_text(scanner)


# Raises a fault where no line with one of the words stands here; else the scanner is behind the line.
def read_line(scanner, words):
    word = read_word(scanner, words)
    parts = []
    for kind in FIELDS[word]:
        scanner.take((BLANK,))
        parts.append(read_part(scanner, kind))
    scanner.take((NEWLINE,))
    return Line(word, parts)
