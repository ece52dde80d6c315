"""state (promise 10)."""

import unittest

from tests.helper import (
    DOCUMENTS, EXAMPLE, NEW, REDO, STATE, UNDO, append, ask, cell_lines, check, do, fold, read, sample, seed, session,
    state, to)


class State(unittest.TestCase):
    def test_the_new_session(self):
        self.assertEqual(ask(STATE), [[0, 1, 0, 0, 0]])

    def test_behind_seed(self):
        self.assertEqual(state(seed(999999999)), [999999999, 1, 0, 0, 0])
        self.assertEqual(state(seed(5), seed(-1)), [5, 1, 0, 0, 0])

    def test_behind_read(self):
        for position in range(6):
            for first in range(position + 1):
                self.assertEqual(state(read(sample(position, first))),
                                 [3, 20, position - first, 5 - position, len(DOCUMENTS[first])])
        self.assertEqual(state(read(EXAMPLE)), [7, 2, 1, 0, 0])
        self.assertEqual(state(read(EXAMPLE), read(NEW)), [0, 1, 0, 0, 0])
        self.assertEqual(state(read(EXAMPLE), read(sample(1)[:-1])), [7, 2, 1, 0, 0])

    def test_behind_check(self):
        self.assertEqual(state(check(EXAMPLE)), [0, 1, 0, 0, 0])

    def test_the_greatest(self):
        self.assertEqual(state(read(session(*[f'cell {n} 0 ""' for n in range(88, 100)], *20 * ["step", "swap 88 88"],
                                            "here", seed=999999999, upto=100))), [999999999, 100, 20, 0, 12])
        self.assertEqual(state(read(session('cell 1 0 ""', "here", *20 * ["step", "swap 1 1"]))), [0, 50, 0, 20, 1])

    def test_behind_do(self):
        calls = [do('make 1 0 "ab"', "split 1 1 2")]
        self.assertEqual(state(*calls), [0, 3, 1, 0, 0])
        self.assertEqual(state(*calls, do("drop 1")), [0, 3, 2, 0, 0])
        self.assertEqual(state(*calls, do("drop 3")), [0, 3, 1, 0, 0])
        self.assertEqual(state(*calls, UNDO, do('make 3 0 ""')), [0, 4, 1, 0, 0])

    def test_behind_undo_and_redo(self):
        calls = [do('make 1 0 ""'), do("hide 1 1")]
        self.assertEqual(state(*calls, UNDO), [0, 2, 1, 1, 0])
        self.assertEqual(state(*calls, UNDO, UNDO), [0, 2, 0, 2, 0])
        self.assertEqual(state(*calls, UNDO, UNDO, UNDO), [0, 2, 0, 2, 0])
        self.assertEqual(state(*calls, UNDO, UNDO, REDO), [0, 2, 1, 1, 0])

    def test_behind_to(self):
        self.assertEqual(state(read(sample(5)), to(2)), [3, 20, 2, 3, 2])
        self.assertEqual(state(read(sample(0)), to(5)), [3, 20, 5, 0, 2])

    def test_behind_fold(self):
        for first in range(5):
            self.assertEqual(state(read(sample(4)), fold(first)), [3, 20, 4 - first, 1, len(DOCUMENTS[first])])
        self.assertEqual(state(do('make 1 0 ""', 'make 2 0 ""'), fold(1)), [0, 3, 0, 0, 2])

    def test_behind_append(self):
        text = session(*cell_lines(DOCUMENTS[4]), "step", "drop 8", "here", "step", 'make 22 0 ""', seed=1, upto=40)
        self.assertEqual(state(read(sample(4)), append(text)), [3, 40, 5, 1, 2])
        self.assertEqual(state(read(sample(4)), append(text[1:])), [3, 20, 4, 1, 2])

    def test_nothing_is_changed(self):
        self.assertEqual(ask(read(sample(4)), STATE, STATE, UNDO, STATE)[1:],
                         [[3, 20, 4, 1, 2], [3, 20, 4, 1, 2], [3], [3, 20, 3, 2, 2]])
