"""to (promise 6)."""

import unittest

from tests.helper import (
    DOCUMENTS, NEW, REDO, STATE, STEPS, UNDO, WHOLE, WRITE, ask, cell_lines, do, read, row, sample, session, state,
    step_lines, to, told, whole, written)

TWENTY = session('cell 1 0 ""', *20 * ["step", "hide 1 1"], "here")


class To(unittest.TestCase):
    def test_each_position_from_each_position(self):
        for start in range(6):
            for position in range(6):
                calls = [read(sample(start)), to(position)]
                self.assertEqual(ask(*calls), [[0], [5 - position]])
                self.assertEqual(written(*calls), sample(position))
                self.assertEqual(whole(*calls), told(DOCUMENTS[position]))
                self.assertEqual(state(*calls), [3, 20, position, 5 - position, 2])

    def test_no_position(self):
        for start in range(6):
            for position in (-1, -2, 6, 7, 20, 21, 10 ** 18, -10 ** 18):
                text = row(sample(start))
                self.assertEqual(ask(read(text), to(position), WRITE, STATE, WHOLE)[1:], [
                    [-5], [len(text), *text], [3, 20, start, 5 - start, 2], told(DOCUMENTS[start])])

    def test_the_new_session(self):
        self.assertEqual(ask(to(0), to(1), to(-1), to(0)), [[0], [-5], [-5], [0]])
        self.assertEqual(written(to(0), to(1)), NEW)

    def test_all_of_twenty_steps(self):
        for position in range(21):
            self.assertEqual(ask(read(TWENTY), to(position)), [[0], [20 - position]])
        self.assertEqual(ask(read(TWENTY), to(21), to(0), to(21), to(-1), to(20)),
                         [[0], [-5], [20], [-5], [-5], [0]])

    def test_one_behind_the_other(self):
        self.assertEqual(ask(read(sample(2)), to(5), to(0), to(0), to(3), to(6), to(4)),
                         [[0], [0], [5], [5], [2], [-5], [1]])


class GoesOn(unittest.TestCase):
    def test_undo_and_redo(self):
        text = sample(5)
        self.assertEqual(ask(read(text), to(2), UNDO, UNDO, UNDO), [[0], [3], [1], [0], [-6]])
        self.assertEqual(ask(read(text), to(2), REDO, REDO, REDO, REDO), [[0], [3], [3], [4], [5], [-6]])
        self.assertEqual(ask(read(text), to(0), UNDO, REDO), [[0], [5], [-6], [1]])
        self.assertEqual(ask(read(sample(0)), to(5), REDO, UNDO), [[0], [0], [-6], [4]])
        self.assertEqual(written(read(text), to(2), UNDO), sample(1))
        self.assertEqual(written(read(text), to(2), REDO), sample(3))

    def test_do(self):
        for position in range(6):
            calls = [read(sample(5)), to(position), do("hide 5 0")]
            if position == 5:
                self.assertEqual(ask(*calls)[-1], [-3])
                continue
            self.assertEqual(ask(*calls), [[0], [5 - position], [position + 1]])
            self.assertEqual(written(*calls), session(
                *cell_lines(DOCUMENTS[0]), *step_lines(STEPS[:position] + [["hide 5 0"]], position + 1),
                seed=3, upto=20))
            self.assertEqual(ask(*calls, to(position + 1), to(position + 2), to(position), REDO)[3:],
                             [[0], [-5], [1], [position + 1]])

    def test_twenty_done_and_fewer(self):
        self.assertEqual(ask(read(TWENTY), to(19), do("drop 1"), to(20), do('replace "a" "b"'), to(5), do("drop 1")),
                         [[0], [1], [20], [0], [-4], [15], [6]])

    def test_the_next_number_stays(self):
        self.assertEqual(ask(do('make 1 0 ""'), do('make 2 0 ""'), to(0), do('make 1 0 ""'), do('make 3 0 ""')),
                         [[1], [2], [2], [-2], [1]])
