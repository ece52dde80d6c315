"""undo and redo (promise 5)."""

import unittest

from tests.helper import NEW, REDO, UNDO, ask, do, read, session, written

MAKE = do('make 1 0 ""')
HIDE = do("hide 1 1")


class UndoAndRedo(unittest.TestCase):
    def test_nothing_to_undo(self):
        self.assertEqual(ask(UNDO, UNDO), [[-6], [-6]])
        self.assertEqual(written(UNDO), NEW)
        self.assertEqual(ask(MAKE, UNDO, UNDO, REDO), [[1], [0], [-6], [1]])

    def test_nothing_to_do_again(self):
        self.assertEqual(ask(REDO, REDO), [[-6], [-6]])
        self.assertEqual(written(REDO), NEW)
        self.assertEqual(ask(MAKE, REDO, UNDO), [[1], [-6], [0]])

    def test_the_count_of_done_steps(self):
        self.assertEqual(ask(MAKE, HIDE, HIDE, UNDO, UNDO, REDO, REDO, REDO, UNDO, UNDO, UNDO, UNDO),
                         [[1], [2], [3], [2], [1], [2], [3], [-6], [2], [1], [0], [-6]])

    def test_all_twenty_steps(self):
        full = session('cell 1 0 ""', *20 * ["step", "hide 1 1"], "here")
        self.assertEqual(ask(read(full), *21 * [UNDO])[1:], [[count] for count in range(19, -1, -1)] + [[-6]])
        none = session('cell 1 0 ""', "here", *20 * ["step", "hide 1 1"])
        self.assertEqual(ask(read(none), *21 * [REDO])[1:], [[count] for count in range(1, 21)] + [[-6]])
        self.assertEqual(written(read(full), *20 * [UNDO]), none)
        self.assertEqual(written(read(none), *20 * [REDO]), full)

    def test_a_do_behind_an_undo_leaves_nothing_to_do_again(self):
        self.assertEqual(ask(MAKE, HIDE, HIDE, UNDO, UNDO, HIDE, REDO, UNDO, REDO),
                         [[1], [2], [3], [2], [1], [2], [-6], [1], [2]])

    def test_a_refused_do_behind_an_undo_leaves_it_to_do_again(self):
        self.assertEqual(ask(MAKE, HIDE, UNDO, do("drop 9"), REDO), [[1], [2], [1], [-3], [2]])

    def test_the_document_is_the_one_at_the_position(self):
        self.assertEqual(ask(MAKE, UNDO, HIDE, REDO, HIDE), [[1], [0], [-3], [1], [2]])
        self.assertEqual(ask(MAKE, do("drop 1"), HIDE, UNDO, HIDE), [[1], [2], [-3], [1], [2]])

    def test_the_next_number_stays(self):
        self.assertEqual(written(MAKE, UNDO), session("here", "step", 'make 1 0 ""', upto=2))
