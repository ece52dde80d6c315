"""whole and at (promise 9): the document, and the one at a position."""

import unittest

from tests.helper import (
    DOCUMENTS, REDO, UNDO, WHOLE, ask, at, cell_lines, do, fold, quoted, read, sample, session, to, told, whole,
    written)


class Whole(unittest.TestCase):
    def test_the_empty_document(self):
        self.assertEqual(ask(WHOLE), [[0]])
        self.assertEqual(ask(do('make 1 0 "a"'), do("drop 1"), WHOLE), [[1], [2], [0]])
        self.assertEqual(ask(do('make 1 0 "a"'), UNDO, WHOLE), [[1], [0], [0]])

    def test_one_cell(self):
        self.assertEqual(whole(do('make 1 0 ""')), [1, 1, 0, 0])
        self.assertEqual(whole(do('make 1 0 "hi"')), [1, 1, 0, 2, 104, 105])

    def test_hidden_cells(self):
        self.assertEqual(whole(do('make 1 0 "a"', "hide 1 1")), [1, 1, 1, 1, 97])
        self.assertEqual(whole(do('make 1 0 "a"', 'make 2 0 ""', "hide 1 1", "hide 2 1", "hide 1 0")),
                         [2, 2, 1, 0, 1, 0, 1, 97])

    def test_several_cells_in_order(self):
        self.assertEqual(whole(read(session('cell 9 1 "p"', 'cell 2 0 ""', 'cell 30 0 "qr"', "here"))),
                         [3, 9, 1, 1, 112, 2, 0, 0, 30, 0, 2, 113, 114])
        self.assertEqual(whole(do('make 1 0 ""', 'make 2 0 ""', 'make 3 2 ""')), [3, 2, 0, 0, 3, 0, 0, 1, 0, 0])

    def test_every_byte(self):
        for first in range(0, 256, 64):
            text = list(range(first, first + 64))
            self.assertEqual(whole(do(f'make 1 0 "{quoted(text)}"')), [1, 1, 0, 64] + text)
            self.assertEqual(whole(read(session(*cell_lines([(4, 1, text)]), "here"))), [1, 4, 1, 64] + text)

    def test_twelve_cells_with_200_bytes(self):
        calls = [do(*[f'make {number} 0 "{200 * chr(96 + number)}"' for number in range(first, first + 3)])
                 for first in (1, 4, 7, 10)]
        self.assertEqual(whole(*calls), told([(number, 0, 200 * chr(96 + number)) for number in range(12, 0, -1)]))

    def test_the_document_is_the_one_at_the_position(self):
        for position in range(6):
            self.assertEqual(whole(read(sample(position))), told(DOCUMENTS[position]))
        self.assertEqual(ask(read(sample(2)), WHOLE, REDO, WHOLE, UNDO, UNDO, WHOLE)[1:],
                         [told(DOCUMENTS[2]), [3], told(DOCUMENTS[3]), [2], [1], told(DOCUMENTS[1])])


class At(unittest.TestCase):
    def test_every_position_also_of_undone_steps(self):
        for here in range(6):
            for position in range(6):
                self.assertEqual(ask(read(sample(here)), at(position)), [[0], told(DOCUMENTS[position])])

    def test_no_position(self):
        for here in range(6):
            for position in (-1, -6, 6, 7, 21, 10 ** 18, -10 ** 18):
                self.assertEqual(ask(read(sample(here)), at(position)), [[0], [-5]])
                self.assertEqual(written(read(sample(here)), at(position)), sample(here))

    def test_the_new_session(self):
        self.assertEqual(ask(at(0), at(1), at(-1)), [[0], [-5], [-5]])

    def test_twenty_steps(self):
        texts = [quoted(str(number)) for number in range(20)]
        base = session('cell 1 1 ""', "here", *[line for text in texts for line in ("step", f'write 1 "{text}"')])
        self.assertEqual(ask(read(base), *[at(position) for position in range(22)])[1:],
                         [told([(1, 1, text)]) for text in ["", *texts]] + [[-5]])

    def test_steps_of_several_edits(self):
        calls = [do('make 1 0 "ab"', "split 1 1 2", "hide 2 1"), do('replace "b" "cd"', "swap 1 2"), do("join 2")]
        self.assertEqual(ask(*calls, at(0), at(1), at(2), at(3))[3:], [
            [0], told([(1, 0, "a"), (2, 1, "b")]), told([(2, 1, "cd"), (1, 0, "a")]), told([(2, 1, "cda")])])

    def test_behind_a_do_that_takes_the_place_of_undone_steps(self):
        calls = [read(sample(5)), to(3), do("drop 8")]
        self.assertEqual(ask(*calls, at(3), at(4), at(5))[3:],
                         [told(DOCUMENTS[3]), told([(5, 1, "a"), (7, 0, "x")]), [-5]])

    def test_nothing_is_changed(self):
        self.assertEqual(written(read(sample(3)), at(0), at(5), WHOLE, at(2)), sample(3))
        self.assertEqual(whole(read(sample(3)), at(0), at(5)), told(DOCUMENTS[3]))
        self.assertEqual(ask(read(sample(3)), fold(1), at(4), at(0), WHOLE)[2:],
                         [told(DOCUMENTS[5]), told(DOCUMENTS[1]), told(DOCUMENTS[3])])
