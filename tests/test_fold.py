"""fold (promise 7)."""

import unittest

from tests.helper import (
    DOCUMENTS, NEW, REDO, STATE, STEPS, UNDO, WHOLE, WRITE, ask, at, cell_lines, do, fold, read, row, sample, seed,
    session, state, step_lines, to, told, whole, written)


class Fold(unittest.TestCase):
    def folds(self):
        for position in range(6):
            for first in range(position + 1):
                yield position, first, [read(sample(position)), fold(first)]

    def test_how_many_steps_the_history_has(self):
        for position, first, calls in self.folds():
            self.assertEqual(ask(*calls), [[0], [5 - first]])

    def test_the_base_and_the_steps_that_are_left(self):
        for position, first, calls in self.folds():
            self.assertEqual(written(*calls), sample(position, first))

    def test_the_seed_the_next_number_and_the_document_stay(self):
        for position, first, calls in self.folds():
            self.assertEqual(state(*calls), [3, 20, position - first, 5 - position, len(DOCUMENTS[first])])
            self.assertEqual(whole(*calls), told(DOCUMENTS[position]))

    def test_the_documents_at_the_positions(self):
        for position, first, calls in self.folds():
            places = range(6 - first)
            self.assertEqual(ask(*calls, *[at(place) for place in places])[2:],
                             [told(DOCUMENTS[first + place]) for place in places])
            self.assertEqual(ask(*calls, at(6 - first), at(-1))[2:], [[-5], [-5]])

    def test_the_text_is_read_again(self):
        for position, first, calls in self.folds():
            self.assertEqual(ask(read(written(*calls))), [[0]])

    def test_a_base_with_every_kind_of_byte(self):
        calls = [do('make 1 0 "\\x00\\n\\"\\\\ ~\\x7f\\xff"'), do("split 1 4 2", "hide 1 1", "move 1 2"), fold(2)]
        self.assertEqual(ask(*calls), [[1], [2], [0]])
        self.assertEqual(written(*calls),
                         session('cell 2 0 " ~\\x7f\\xff"', 'cell 1 1 "\\x00\\n\\"\\\\"', "here", upto=3))

    def test_an_empty_base(self):
        calls = [do('make 1 0 ""'), do("drop 1"), do('make 2 0 ""'), fold(2)]
        self.assertEqual(written(*calls), session("step", 'make 2 0 ""', "here", upto=3))
        self.assertEqual(written(do('make 1 0 ""'), do("drop 1"), fold(2)), session("here", upto=2))

    def test_twelve_cells(self):
        makes = [f'make {number} 0 ""' for number in range(1, 13)]
        calls = [do(*makes[:10]), do(*makes[10:]), fold(2)]
        self.assertEqual(written(*calls), session(*[f'cell {number} 0 ""' for number in range(12, 0, -1)], "here",
                                                  upto=13))
        self.assertEqual(ask(*calls, do('make 13 0 ""'), do("drop 1"), do('make 13 0 ""'))[3:], [[-3], [1], [2]])


class NoPosition(unittest.TestCase):
    def test_below_0_and_above_the_position(self):
        for position in range(6):
            text = row(sample(position))
            for wrong in (-1, -10 ** 18, *range(position + 1, 8), 20, 10 ** 18):
                self.assertEqual(ask(read(text), fold(wrong), WRITE, STATE, WHOLE)[1:], [
                    [-5], [len(text), *text], [3, 20, position, 5 - position, 2], told(DOCUMENTS[position])])

    def test_the_new_session(self):
        self.assertEqual(ask(fold(0), fold(1), fold(-1)), [[0], [-5], [-5]])
        self.assertEqual(written(fold(0)), NEW)

    def test_an_undone_step_is_no_position_to_fold_at(self):
        self.assertEqual(ask(do('make 1 0 ""'), UNDO, fold(1), REDO, fold(1), fold(1)),
                         [[1], [0], [-5], [1], [0], [-5]])


class GoesOn(unittest.TestCase):
    def test_undo_and_redo(self):
        calls = [read(sample(4)), fold(3)]
        self.assertEqual(ask(*calls, UNDO, UNDO, REDO, REDO, REDO)[2:], [[0], [-6], [1], [2], [-6]])
        self.assertEqual(written(*calls, UNDO), sample(3, 3))
        self.assertEqual(written(*calls, REDO), sample(5, 3))

    def test_to(self):
        calls = [read(sample(4)), fold(3)]
        self.assertEqual(ask(*calls, to(0), to(1), to(2), to(3), to(-1))[2:], [[2], [1], [0], [-5], [-5]])
        self.assertEqual(written(*calls, to(0)), sample(3, 3))
        self.assertEqual(whole(*calls, to(0)), told(DOCUMENTS[3]))

    def test_do(self):
        calls = [read(sample(4)), fold(2), do("hide 8 0", 'make 20 8 "q"')]
        self.assertEqual(ask(*calls), [[0], [3], [3]])
        self.assertEqual(written(*calls), session(
            *cell_lines(DOCUMENTS[2]), *step_lines(STEPS[2:4] + [["hide 8 0", 'make 20 8 "q"']], 3), seed=3, upto=21))
        self.assertEqual(whole(*calls), told([(7, 0, "x"), (5, 1, "a"), (8, 0, "\0"), (20, 0, "q")]))

    def test_fold_again(self):
        for last in range(4):
            calls = [read(sample(5)), fold(2), fold(last)]
            self.assertEqual(ask(*calls), [[0], [3], [3 - last]])
            self.assertEqual(written(*calls), sample(5, 2 + last))
        self.assertEqual(ask(read(sample(5)), fold(2), fold(4)), [[0], [3], [-5]])

    def test_room_for_more_steps(self):
        calls = [do('make 1 0 ""')] + 19 * [do("hide 1 1")]
        hide = do("hide 1 0")
        self.assertEqual(ask(*calls, hide, fold(1), hide, hide, fold(20), do("drop 1"))[20:],
                         [[-4], [19], [20], [-4], [0], [1]])

    def test_a_number_folded_is_not_made_again(self):
        self.assertEqual(ask(do('make 1 0 ""'), do("drop 1"), fold(2), do('make 1 0 ""'), do('make 2 0 ""')),
                         [[1], [2], [0], [-2], [1]])

    def test_the_seed(self):
        self.assertEqual(state(seed(12), do('make 1 0 ""'), fold(1)), [12, 2, 0, 0, 1])
        self.assertEqual(state(do('make 1 0 ""'), fold(1), seed(12)), [12, 2, 0, 0, 1])
