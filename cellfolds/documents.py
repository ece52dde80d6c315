"""Cells, documents (lists of cells), and the edits that turn one document into another."""

NUMBER_LIMIT = 99
CELL_LIMIT = 12
TEXT_LIMIT = 200


class Cell:
    # Documents share their cells, so a cell is never changed: a new one takes its place.
    def __init__(self, number, mark, text):
        self.number = number
        self.mark = mark
        self.text = text


def place_of(document, number):
    for place, cell in enumerate(document):
        if cell.number == number:
            return place
    return None


def place_behind(document, after):
    if after == 0:
        return 0
    place = place_of(document, after)
    return None if place is None else place + 1


def exchanged(document, place, count, cells):
    return document[:place] + cells + document[place + count:]


def told_document(document):
    told = [len(document)]
    for cell in document:
        told.extend([cell.number, cell.mark, len(cell.text)])
        told.extend(cell.text)
    return told


# The nine edits: each answers the new document, or None where it can't be done.

def make_cell(document, parts):
    place = place_behind(document, parts[1])
    if place is None or len(document) == CELL_LIMIT or place_of(document, parts[0]) is not None:
        return None
    return exchanged(document, place, 0, [Cell(parts[0], 0, parts[2])])


def write_cell(document, parts):
    place = place_of(document, parts[0])
    if place is None:
        return None
    cell = document[place]
    return exchanged(document, place, 1, [Cell(cell.number, cell.mark, parts[1])])


def move_cell(document, parts):
    place = place_of(document, parts[0])
    if place is None:
        return None
    # Looked for among the others, a cell can't be put behind itself.
    others = exchanged(document, place, 1, [])
    target = place_behind(others, parts[1])
    if target is None:
        return None
    return exchanged(others, target, 0, [document[place]])


def drop_cell(document, parts):
    place = place_of(document, parts[0])
    if place is None:
        return None
    return exchanged(document, place, 1, [])


def hide_cell(document, parts):
    place = place_of(document, parts[0])
    if place is None:
        return None
    cell = document[place]
    return exchanged(document, place, 1, [Cell(cell.number, parts[1], cell.text)])


def split_cell(document, parts):
    place = place_of(document, parts[0])
    if place is None or len(document) == CELL_LIMIT or place_of(document, parts[2]) is not None:
        return None
    cell = document[place]
    if len(cell.text) < parts[1]:
        return None
    kept = Cell(cell.number, cell.mark, cell.text[:parts[1]])
    rest = Cell(parts[2], cell.mark, cell.text[parts[1]:])
    return exchanged(document, place, 1, [kept, rest])


def join_cells(document, parts):
    place = place_of(document, parts[0])
    if place is None or place + 1 == len(document):
        return None
    cell = document[place]
    text = cell.text + document[place + 1].text
    if len(text) > TEXT_LIMIT:
        return None
    return exchanged(document, place, 2, [Cell(cell.number, cell.mark, text)])


def swap_cells(document, parts):
    first = place_of(document, parts[0])
    second = place_of(document, parts[1])
    if first is None or second is None:
        return None
    swapped = list(document)
    swapped[first] = document[second]
    swapped[second] = document[first]
    return swapped


def replaced_text(text, old, new):
    result = []
    place = 0
    while place < len(text):
        if text[place:place + len(old)] == old:
            result.extend(new)
            place += len(old)
        else:
            result.append(text[place])
            place += 1
    return result


def replace_texts(document, parts):
    cells = []
    for cell in document:
        text = replaced_text(cell.text, parts[0], parts[1])
        if len(text) > TEXT_LIMIT:
            return None
        cells.append(Cell(cell.number, cell.mark, text))
    return cells


EDITS = {
    "make": make_cell,
    "write": write_cell,
    "move": move_cell,
    "drop": drop_cell,
    "hide": hide_cell,
    "split": split_cell,
    "join": join_cells,
    "swap": swap_cells,
    "replace": replace_texts,
}


# An edit is the line that tells it. One with an empty text to replace must not come here: it has no end.
def edited(document, line):
    return EDITS[line.word](document, line.parts)


def made_number(line):
    if line.word == "make":
        return line.parts[0]
    if line.word == "split":
        return line.parts[2]
    return None


def replaces_nothing(line):
    return line.word == "replace" and line.parts[0] == []
