"""append (promise 8)."""

import unittest

from tests.helper import (
    DOCUMENTS, EXAMPLE, NEW, REDO, STATE, STEPS, UNDO, WHOLE, WRITE, append, ask, at, cell_lines, do, fold, read, row,
    sample, seed, session, state, step_lines, to, told, whole, written)


def other(cells, steps=(), done=0, seed=99, upto=20):
    """The text of a session with these cells as its base."""
    return session(*cell_lines(cells), *step_lines(list(steps), done), seed=seed, upto=upto)


def going_on(position, steps, done, **more):
    """The text of a session that goes on from the document of sample(position)."""
    return other(DOCUMENTS[position], steps, done, **more)


def behind(position, steps, done, upto):
    """The text of sample(position) with such a session appended."""
    return session(*cell_lines(DOCUMENTS[0]), *step_lines(STEPS[:position] + steps, position + done), seed=3, upto=upto)


HIDE = ["hide 8 0"]
MAKE = ['make 20 0 "q"', "split 5 0 21"]
DROP = ["drop 20", "drop 7"]
LAST = [(20, 0, "q"), (5, 1, ""), (21, 1, "a"), (8, 1, "b"), (7, 0, "x")]


class AppendCase(unittest.TestCase):
    def assert_refused(self, here, text, refusal):
        """The refusal alone, and everything as it was."""
        told_here = ask(read(here), WRITE, STATE, WHOLE)
        self.assertEqual(ask(read(here), append(text), WRITE, STATE, WHOLE), [[0], [refusal], *told_here[1:]])


class WhatItLeaves(AppendCase):
    def test_done_and_undone_steps(self):
        steps = [MAKE, DROP]
        for done in range(3):
            calls = [read(sample(3)), append(going_on(3, steps, done, upto=30))]
            self.assertEqual(ask(*calls), [[0], [3 + done]])
            self.assertEqual(written(*calls), behind(3, steps, done, 30))
            self.assertEqual(state(*calls), [3, 30, 3 + done, 2 - done, 2])

    def test_the_documents(self):
        calls = [read(sample(3)), append(going_on(3, [MAKE, DROP], 1, upto=30))]
        self.assertEqual(whole(*calls), told(LAST))
        documents = [*DOCUMENTS[:4], LAST, [(5, 1, ""), (21, 1, "a"), (8, 1, "b")]]
        self.assertEqual(ask(*calls, *[at(place) for place in range(6)])[2:], [told(cells) for cells in documents])
        self.assertEqual(ask(*calls, at(6)), [[0], [4], [-5]])

    def test_from_each_position(self):
        for position in range(6):
            calls = [read(sample(position)), append(going_on(position, [['make 20 0 ""'], ["drop 20"]], 1, upto=21))]
            self.assertEqual(ask(*calls), [[0], [position + 1]])
            self.assertEqual(written(*calls), behind(position, [['make 20 0 ""'], ["drop 20"]], 1, 21))

    def test_the_undone_steps_here_are_gone(self):
        for steps, done in (([], 0), ([HIDE], 0), ([HIDE], 1)):
            calls = [read(sample(3)), append(going_on(3, steps, done))]
            self.assertEqual(written(*calls), behind(3, steps, done, 20))
            self.assertEqual(state(*calls), [3, 20, 3 + done, len(steps) - done, 2])

    def test_the_greater_next_number(self):
        for here, there in ((20, 9), (20, 19), (20, 20), (20, 21), (20, 100), (100, 9), (100, 100)):
            calls = [read(sample(3, upto=here)), append(going_on(3, [HIDE], 1, upto=there))]
            self.assertEqual(ask(*calls), [[0], [4]])
            self.assertEqual(written(*calls), behind(3, [HIDE], 1, max(here, there)))

    def test_the_seed_stays(self):
        for number in (0, 3, 999999999):
            calls = [read(sample(3)), append(going_on(3, [], 0, seed=number))]
            self.assertEqual(state(*calls)[0], 3)
        self.assertEqual(state(append(NEW), seed(5), append(EXAMPLE)), [5, 2, 1, 0, 0])

    def test_the_base_stays(self):
        self.assertEqual(written(read(sample(5, 2)), append(going_on(5, [["drop 7"]], 1))), session(
            *cell_lines(DOCUMENTS[2]), *step_lines(STEPS[2:] + [["drop 7"]], 4), seed=3, upto=20))

    def test_nothing_to_nothing(self):
        self.assertEqual(ask(append(NEW), append(NEW)), [[0], [0]])
        self.assertEqual(written(append(NEW)), NEW)
        self.assertEqual(ask(append(EXAMPLE)), [[1]])
        self.assertEqual(written(append(EXAMPLE)), EXAMPLE.replace("seed 7", "seed 0"))

    def test_a_hidden_cell_and_every_kind_of_byte(self):
        cells = [(9, 1, "\0\n\x1f \"\\~\x7f\xff"), (1, 0, "")]
        self.assertEqual(ask(read(other(cells)), append(other(cells, [["drop 9"]], 1))), [[0], [1]])


class GoesOn(unittest.TestCase):
    CALLS = [read(sample(3)), append(going_on(3, [MAKE, DROP], 1, upto=30))]

    def test_undo_and_redo(self):
        self.assertEqual(ask(*self.CALLS, REDO, REDO, UNDO, UNDO, UNDO, UNDO, UNDO, UNDO)[2:],
                         [[5], [-6], [4], [3], [2], [1], [0], [-6]])
        self.assertEqual(written(*self.CALLS, REDO), behind(3, [MAKE, DROP], 2, 30))
        self.assertEqual(written(*self.CALLS, UNDO, UNDO), behind(3, [MAKE, DROP], -1, 30))

    def test_to(self):
        self.assertEqual(ask(*self.CALLS, to(0), to(5), to(6), to(3))[2:], [[5], [0], [-5], [2]])
        self.assertEqual(whole(*self.CALLS, to(3)), told(DOCUMENTS[3]))

    def test_do(self):
        self.assertEqual(ask(*self.CALLS, do('make 20 0 ""'), do('make 29 0 ""'), do('make 30 20 "z"'), REDO)[2:],
                         [[-2], [-2], [5], [-6]])
        self.assertEqual(written(*self.CALLS, do('make 30 20 "z"')), behind(3, [MAKE, ['make 30 20 "z"']], 2, 31))

    def test_fold(self):
        self.assertEqual(ask(*self.CALLS, fold(5), fold(4))[2:], [[-5], [1]])
        self.assertEqual(written(*self.CALLS, fold(4)), other(LAST, [DROP], seed=3, upto=30))

    def test_append_again(self):
        calls = [*self.CALLS, append(other(LAST, [["drop 5"]], 1, upto=25))]
        self.assertEqual(ask(*calls)[2:], [[5]])
        self.assertEqual(written(*calls), behind(3, [MAKE, ["drop 5"]], 2, 30))

    def test_the_same_text_twice(self):
        text = other([(1, 0, "")], [["hide 1 1"], ["hide 1 0"]], 2)
        self.assertEqual(ask(read(text), append(text), append(text)), [[0], [4], [6]])
        self.assertEqual(written(read(text), append(text), seed(99)),
                         other([(1, 0, "")], 2 * [["hide 1 1"], ["hide 1 0"]], 4))

    def test_what_is_left_can_be_read(self):
        text = written(*self.CALLS)
        self.assertEqual(written(read(text)), text)


class NotTheText(AppendCase):
    TEXT = going_on(3, [HIDE], 1)

    def test_each_kind_of_fault(self):
        for text, kind in (
                (self.TEXT.replace("hide", "hidE"), 1), (self.TEXT.replace("seed 99", "seed 099"), 1),
                (self.TEXT.replace("next 20", "next 101"), 2), (self.TEXT.replace("next 20", "next 8"), 2),
                (self.TEXT.replace("hide 8", "hide 9"), 3), (self.TEXT + "\n", 4), (self.TEXT + NEW, 4)):
            self.assertEqual(ask(read(text))[0][0], kind)
            self.assert_refused(sample(3), text, -1)

    def test_a_part_of_the_text(self):
        for length in range(len(self.TEXT)):
            self.assert_refused(sample(3), self.TEXT[:length], -1)

    def test_a_number_that_is_no_byte(self):
        text = row(self.TEXT)
        for place in range(len(text) + 1):
            for wrong in (-1, 256, text[place - 1] + 256, 10 ** 18, -10 ** 18):
                self.assert_refused(sample(3), text[:place] + [wrong] + text[place:], -1)
                if place < len(text):
                    self.assert_refused(sample(3), text[:place] + [wrong] + text[place + 1:], -1)

    def test_lines_of_edits(self):
        self.assert_refused(sample(3), "hide 8 0\n", -1)


class AnotherBase(AppendCase):
    def test_what_the_cells_have(self):
        for cells in (
                [(5, 1, "a"), (8, 1, "b"), (6, 0, "x")],
                [(5, 1, "a"), (8, 1, "b"), (7, 1, "x")],
                [(5, 0, "a"), (8, 1, "b"), (7, 0, "x")],
                [(5, 1, "a"), (8, 1, "c"), (7, 0, "x")],
                [(5, 1, ""), (8, 1, "b"), (7, 0, "x")],
                [(5, 1, "a"), (8, 1, "b"), (7, 0, "xx")],
                [(5, 1, "ab"), (8, 1, ""), (7, 0, "x")]):
            self.assert_refused(sample(3), other(cells), -8)

    def test_their_order(self):
        for cells in (
                [(8, 1, "b"), (5, 1, "a"), (7, 0, "x")],
                [(5, 1, "a"), (7, 0, "x"), (8, 1, "b")],
                [(7, 0, "x"), (8, 1, "b"), (5, 1, "a")]):
            self.assert_refused(sample(3), other(cells), -8)

    def test_one_cell_less_or_more(self):
        cells = DOCUMENTS[3]
        for wrong in ([], cells[:2], cells[1:], cells + [(9, 0, "")], [(9, 0, "")] + cells):
            self.assert_refused(sample(3), other(wrong), -8)
        self.assert_refused(NEW, other([(1, 0, "")]), -8)
        self.assert_refused(other([(1, 0, "")]), NEW, -8)

    def test_the_document_of_another_position(self):
        for here in range(6):
            for there in range(6):
                if here != there:
                    self.assert_refused(sample(here), going_on(there, [], 0), -8)

    def test_the_document_that_the_text_comes_to(self):
        self.assert_refused(sample(3), sample(3), -8)
        self.assert_refused(EXAMPLE, EXAMPLE, -8)


class NumbersBelow(AppendCase):
    def test_one_below_the_next_number(self):
        for edit in ('make {} 0 ""', "split 5 1 {}"):
            for number in (9, 10, 18, 19):
                for done in (0, 1):
                    self.assert_refused(sample(3), going_on(3, [[edit.format(number)]], done), -2)
            for number in (20, 21, 99):
                text = going_on(3, [[edit.format(number)]], 1, upto=100)
                self.assertEqual(ask(read(sample(3)), append(text)), [[0], [4]])

    def test_one_of_several(self):
        self.assert_refused(sample(3), going_on(3, [HIDE, ["hide 8 1", 'make 19 0 ""'], MAKE], 3, upto=30), -2)
        self.assert_refused(sample(3), going_on(3, [HIDE, ["hide 8 1", 'make 19 0 ""'], MAKE], 0, upto=30), -2)
        self.assertEqual(ask(read(sample(3)), append(going_on(3, [HIDE, MAKE], 0, upto=30))), [[0], [3]])

    def test_one_that_is_dropped_again(self):
        self.assert_refused(sample(3), going_on(3, [['make 19 0 ""', "drop 19"]], 1), -2)

    def test_the_next_number_here_may_come_from_gone_steps(self):
        second = EXAMPLE.replace("make 1", "make 2").replace("next 2", "next 3")
        self.assertEqual(ask(do('make 1 0 ""'), UNDO, append(EXAMPLE), append(second)), [[1], [0], [-2], [1]])

    def test_other_numbers_do_not_count(self):
        edits = ["move 8 0", "swap 5 7", 'write 5 ""', "hide 7 1", 'replace "b" ""', "join 8", "drop 5"]
        text = going_on(3, [edits], 1)
        self.assertEqual(ask(read(sample(3)), append(text)), [[0], [4]])

    def test_a_next_number_of_100(self):
        self.assert_refused(sample(3, upto=100), going_on(3, [['make 99 0 ""']], 1, upto=100), -2)
        self.assertEqual(ask(read(sample(3, upto=100)), append(going_on(3, [HIDE], 1, upto=100))), [[0], [4]])


class TooManySteps(AppendCase):
    def text(self, steps, done):
        return other([(1, 0, "")], steps * [["hide 1 0"]], done)

    def test_twenty_together_and_twenty_one(self):
        for here in (0, 1, 7, 10, 19, 20):
            for done in {0, (20 - here) // 2, 20 - here}:
                calls = [read(self.text(here, here)), append(self.text(20 - here, done))]
                self.assertEqual(ask(*calls), [[0], [here + done]])
                self.assertEqual(state(*calls), [99, 20, here + done, 20 - here - done, 1])
            if here > 0:
                for done in (0, 1, 21 - here):
                    self.assert_refused(self.text(here, here), self.text(21 - here, done), -4)

    def test_the_undone_steps_here_do_not_count(self):
        for here in (0, 1, 10, 19):
            self.assertEqual(ask(read(self.text(20, here)), append(self.text(20 - here, 0))), [[0], [here]])
            if here > 0:
                self.assert_refused(self.text(20, here), self.text(21 - here, 0), -4)

    def test_two_full_ones(self):
        self.assert_refused(self.text(20, 20), self.text(20, 20), -4)
        self.assert_refused(self.text(20, 20), self.text(1, 0), -4)
        self.assertEqual(ask(read(self.text(20, 20)), append(self.text(0, 0))), [[0], [20]])


class WhichRefusal(AppendCase):
    HERE = other([(1, 0, "")], 20 * [["hide 1 0"]], 20)

    def test_a_fault_first(self):
        text = other([(1, 0, "")], [['make 2 0 ""']], 1)
        self.assert_refused(self.HERE, text, -2)
        self.assert_refused(self.HERE, text[:-1], -1)
        self.assert_refused(self.HERE, other([(1, 1, "")], [['make 2 0 ""']], 1)[:-1], -1)
        self.assert_refused(self.HERE, other([(1, 0, "")], [HIDE], 1), -1)

    def test_then_the_base(self):
        wrong = [(1, 1, "")]
        self.assert_refused(self.HERE, other(wrong, [['make 2 0 ""']], 1), -8)
        self.assert_refused(self.HERE, other(wrong, [["hide 1 0"]], 1), -8)
        self.assert_refused(sample(3), other(wrong, [['make 2 0 ""']], 1), -8)

    def test_then_the_numbers(self):
        self.assert_refused(self.HERE, other([(1, 0, "")], [['make 19 0 ""']], 0), -2)

    def test_then_the_steps(self):
        self.assert_refused(self.HERE, other([(1, 0, "")], [['make 20 0 ""']], 0, upto=21), -4)
