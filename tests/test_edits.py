"""The nine edits of the document's Words, each on documents of its own."""

import unittest

from cellfolds.documents import Cell, edited
from cellfolds.lines import EDIT_WORDS, Scanner, read_line
from cellfolds.reading import read_session
from tests.helper import lines, row, session


def told(document):
    return None if document is None else [
        (cell.number, cell.mark, "".join(chr(byte) for byte in cell.text)) for cell in document]


def behind(cells, *edits):
    document = [Cell(number, mark, row(text)) for number, mark, text in cells]
    for edit in edits:
        line = read_line(Scanner(row(edit + "\n")), EDIT_WORDS)
        before = told(document)
        changed = edited(document, line)
        assert told(document) == before, "the document handed in was changed"
        document = changed
    return told(document)


THREE = [(5, 1, "abc"), (2, 0, ""), (9, 0, "xy")]
TWELVE = [(number, 0, "ab") for number in range(1, 13)]


class Edits(unittest.TestCase):
    def assert_behind(self, edit, cells, before=THREE):
        self.assertEqual(behind(before, edit), cells)

    def test_make(self):
        self.assert_behind('make 3 0 "q"', [(3, 0, "q"), *THREE])
        self.assert_behind('make 3 5 "q"', [THREE[0], (3, 0, "q"), *THREE[1:]])
        self.assert_behind('make 3 9 ""', [*THREE, (3, 0, "")])
        self.assert_behind('make 3 0 ""', [(3, 0, "")], [])
        self.assert_behind('make 13 11 ""', [*TWELVE[:11], (13, 0, "")], TWELVE[:11])

    def test_make_cannot_be_done(self):
        self.assert_behind('make 5 0 ""', None)
        self.assert_behind('make 9 2 ""', None)
        self.assert_behind('make 3 3 ""', None)
        self.assert_behind('make 3 1 ""', None, [])
        self.assert_behind('make 13 0 ""', None, TWELVE)

    def test_write(self):
        self.assert_behind('write 5 "zz"', [(5, 1, "zz"), *THREE[1:]])
        self.assert_behind('write 9 ""', [*THREE[:2], (9, 0, "")])
        self.assert_behind('write 1 ""', None)

    def test_move(self):
        self.assert_behind("move 9 0", [THREE[2], THREE[0], THREE[1]])
        self.assert_behind("move 9 5", [THREE[0], THREE[2], THREE[1]])
        self.assert_behind("move 5 9", [THREE[1], THREE[2], THREE[0]])
        self.assert_behind("move 5 2", [THREE[1], THREE[0], THREE[2]])
        self.assert_behind("move 5 0", THREE)
        self.assert_behind("move 2 5", THREE)

    def test_move_cannot_be_done(self):
        for edit in ("move 1 0", "move 1 5", "move 5 1", "move 5 5", "move 0 5"):
            self.assert_behind(edit, None)

    def test_drop(self):
        self.assert_behind("drop 2", [THREE[0], THREE[2]])
        self.assert_behind("drop 5", THREE[1:])
        self.assert_behind("drop 9", THREE[:2])
        self.assert_behind("drop 5", [], THREE[:1])
        self.assert_behind("drop 1", None)

    def test_hide(self):
        self.assert_behind("hide 5 0", [(5, 0, "abc"), *THREE[1:]])
        self.assert_behind("hide 5 1", THREE)
        self.assert_behind("hide 9 1", [*THREE[:2], (9, 1, "xy")])
        self.assert_behind("hide 1 1", None)

    def test_split(self):
        self.assert_behind("split 5 1 10", [(5, 1, "a"), (10, 1, "bc"), *THREE[1:]])
        self.assert_behind("split 5 0 10", [(5, 1, ""), (10, 1, "abc"), *THREE[1:]])
        self.assert_behind("split 9 2 10", [*THREE[:2], (9, 0, "xy"), (10, 0, "")])
        self.assert_behind("split 2 0 10", [THREE[0], (2, 0, ""), (10, 0, ""), THREE[2]])
        self.assert_behind("split 11 1 13", [*TWELVE[:10], (11, 0, "a"), (13, 0, "b")], TWELVE[:11])

    def test_split_cannot_be_done(self):
        for edit in ("split 1 0 10", "split 5 4 10", "split 2 1 10", "split 5 1 9", "split 5 1 5"):
            self.assert_behind(edit, None)
        self.assert_behind("split 1 1 13", None, TWELVE)

    def test_join(self):
        self.assert_behind("join 5", [(5, 1, "abc"), THREE[2]])
        self.assert_behind("join 2", [THREE[0], (2, 0, "xy")])
        long = [(1, 0, 150 * "a"), (2, 1, 50 * "b")]
        self.assert_behind("join 1", [(1, 0, 150 * "a" + 50 * "b")], long)

    def test_join_cannot_be_done(self):
        self.assert_behind("join 9", None)
        self.assert_behind("join 1", None)
        self.assert_behind("join 1", None, [(1, 0, 150 * "a"), (2, 1, 51 * "b")])

    def test_swap(self):
        self.assert_behind("swap 5 9", [THREE[2], THREE[1], THREE[0]])
        self.assert_behind("swap 9 5", [THREE[2], THREE[1], THREE[0]])
        self.assert_behind("swap 2 5", [THREE[1], THREE[0], THREE[2]])
        self.assert_behind("swap 2 2", THREE)
        for edit in ("swap 1 5", "swap 5 1", "swap 1 1"):
            self.assert_behind(edit, None)

    def test_replace(self):
        self.assert_behind('replace "b" "12"', [(5, 1, "a12c"), *THREE[1:]])
        self.assert_behind('replace "x" ""', [*THREE[:2], (9, 0, "y")])
        self.assert_behind('replace "q" "p"', THREE)
        self.assert_behind('replace "abcd" ""', THREE)
        self.assert_behind('replace "a" "b"', [], [])
        self.assert_behind('replace "a" "z"', [(1, 0, "z"), (2, 1, "zzb")], [(1, 0, "a"), (2, 1, "aab")])

    def test_replace_goes_on_right_behind(self):
        for old, new, text, result in (
                ("aa", "b", "aaaaa", "bba"), ("aa", "a", "aaaa", "aa"), ("a", "aa", "aba", "aabaa"),
                ("aba", "x", "ababa", "xba"), ("ab", "", "aabb", "ab"), ("ab", "x", "aab", "ax"),
                ("abc", "x", "ab", "ab"), ("aab", "x", "aaab", "ax")):
            self.assert_behind(f'replace "{old}" "{new}"', [(1, 1, result)], [(1, 1, text)])

    def test_replace_up_to_200_bytes(self):
        self.assert_behind('replace "a" "bb"', [(1, 0, 200 * "b")], [(1, 0, 100 * "a")])
        self.assert_behind('replace "a" "bb"', None, [(1, 0, 100 * "a" + "c")])
        self.assert_behind('replace "a" "bb"', None, [(2, 0, "a"), (1, 0, 101 * "a")])
        self.assert_behind('replace "a" "bb"', None, [(1, 0, 101 * "a"), (2, 0, "c")])

    def test_the_documents_along_a_history(self):
        held = read_session(row(session(
            'cell 1 0 "ab"', "step", "split 1 1 2", "hide 2 1", "here", "step", "join 1", "step", "drop 1")))
        self.assertEqual([told(document) for document in held.documents],
                         [[(1, 0, "ab")], [(1, 0, "a"), (2, 1, "b")], [(1, 0, "ab")], []])

    def test_lines_are_read_one_by_one(self):
        scanner = Scanner(row(lines("drop 1", "join 2")))
        self.assertEqual(read_line(scanner, EDIT_WORDS).word, "drop")
        self.assertEqual(read_line(scanner, EDIT_WORDS).word, "join")
        self.assertTrue(scanner.at_end())
