"""do (promise 4): steps that are told as lines of edits."""

import unittest

from tests.helper import NEW, REDO, UNDO, WRITE, ask, do, do_row, lines, read, row, session, written

TWO = session('cell 1 0 "ab"', 'cell 2 1 "' + 199 * "c" + '"', "here", upto=3)
TWELVE = session(*[f'cell {number} 0 "ab"' for number in range(1, 13)], "here", upto=13)


class DoCase(unittest.TestCase):
    def assert_answer(self, text, call, answer):
        """The answer of the call on the session of the text; a refusal leaves everything as it was."""
        self.assertEqual(ask(read(text), call), [[0], [answer]])
        if answer < 0:
            self.assertEqual(written(read(text), call), text)


class Done(DoCase):
    def test_each_of_the_nine_edits(self):
        for edit in ('make 3 0 ""', 'make 3 2 "x"', 'write 1 ""', "move 1 2", "move 2 0", "drop 1", "hide 1 1", "hide 2 0",
                     "split 1 0 3", "split 1 2 3", "swap 1 2", "swap 2 2", 'replace "ab" "b"', 'replace "x" "y"'):
            self.assert_answer(TWO, do(edit), 1)
            upto = 4 if edit.startswith("make") or edit.startswith("split") else 3
            told = TWO.replace("here", "step\n" + edit + "\nhere").replace("next 3", f"next {upto}")
            self.assertEqual(written(read(TWO), do(edit)), told)
        self.assert_answer(TWO, do('write 1 "a"', "join 1"), 1)

    def test_the_steps_are_counted(self):
        calls = [do('make 1 0 ""')] + 19 * [do("hide 1 1")]
        self.assertEqual(ask(*calls), [[count] for count in range(1, 21)])

    def test_ten_edits(self):
        self.assert_answer(TWO, do(*10 * ["hide 1 1"]), 1)
        self.assert_answer(NEW, do(*[f'make {number} 0 ""' for number in range(1, 11)]), 1)

    def test_the_edits_are_done_one_behind_the_other(self):
        self.assert_answer(NEW, do('make 1 0 "ab"', "split 1 1 2", "join 1", "drop 1"), 1)
        self.assertEqual(ask(do('make 1 0 "ab"'), do("split 1 1 2"), do("split 2 1 3"), do("split 2 2 4")),
                         [[1], [2], [3], [-3]])

    def test_the_edits_are_done_on_the_document_at_the_position(self):
        text = session('cell 1 0 ""', "step", "drop 1", "here", "step", 'make 2 0 ""', upto=5)
        self.assert_answer(text, do("hide 1 1"), -3)
        self.assert_answer(text, do("hide 2 1"), -3)
        self.assertEqual(ask(read(text), REDO, do("hide 2 1"))[-1], [3])
        self.assertEqual(ask(read(text), UNDO, do("hide 1 1"))[-1], [1])

    def test_numbers_up_to_99(self):
        self.assertEqual(ask(read(session("here", upto=99)), do('make 99 0 "a"'), do("split 99 0 100"), do("drop 99")),
                         [[0], [1], [-2], [2]])


class NotTheLines(DoCase):
    def assert_no_lines(self, numbers):
        self.assert_answer(TWO, do_row(numbers), -1)

    def test_the_empty_list(self):
        self.assert_no_lines([])

    def test_a_line_without_its_end(self):
        for line in ('make 3 0 ""', 'write 1 "a"', "move 1 0", "drop 1", "hide 1 1", "split 1 0 3", "join 1",
                     "swap 1 2", 'replace "a" "b"'):
            for length in range(1, len(line) + 1):
                self.assert_no_lines(line[:length])
                self.assert_no_lines("hide 1 1\n" + line[:length])

    def test_lines_that_are_no_edits(self):
        for line in ("notebook 1", "seed 1", "next 4", 'cell 3 0 ""', "step", "here", "end", "", "undo", "Drop 1"):
            self.assert_no_lines(lines(line))
            self.assert_no_lines(lines("hide 1 1", line))
            self.assert_no_lines(lines(line, "hide 1 1"))

    def test_edits_written_in_another_way(self):
        for line in ("drop 01", "drop  1", " drop 1", "drop 1 ", "drop 1000000000", "drop -1", "drop", "drop 1 2",
                     "hide 1 2", "hide 1", "move 1", 'write 1 "', "write 1 a", 'write 1 "\\x41"', 'write 1 "\\x0a"',
                     'write 1 "\\xFF"', 'write 1 "' + 201 * "a" + '"', 'replace "a"', "drop 1\r"):
            self.assert_no_lines(lines(line))

    def test_a_number_that_is_no_byte(self):
        for wrong in (-1, 256, 266, 10 ** 18, -10 ** 18):
            for place in range(len("drop 1\n") + 1):
                numbers = row("drop 1\n")
                self.assert_no_lines(numbers[:place] + [wrong] + numbers[place:])
                self.assert_no_lines(numbers[:place] + [wrong] + numbers[place + 1:])


class OutOfRange(DoCase):
    def test_the_eleventh_line(self):
        self.assert_answer(TWO, do(*11 * ["hide 1 1"]), -2)
        self.assert_answer(TWO, do(*10 * ["hide 1 1"], "drop 9"), -2)
        self.assert_answer(TWO, do(*30 * ["hide 1 1"]), -2)

    def test_a_number_that_is_not_the_next(self):
        for number in (0, 1, 2, 4, 99, 100, 999999999):
            self.assert_answer(TWO, do(f'make {number} 0 ""'), -2)
            self.assert_answer(TWO, do(f"split 1 0 {number}"), -2)

    def test_each_line_that_makes_a_cell_makes_it_one_more(self):
        self.assert_answer(TWO, do('make 3 0 ""', "split 1 1 4", "hide 1 1", 'make 5 0 ""', "split 5 0 6"), 1)
        self.assert_answer(TWO, do('make 3 0 ""', 'make 3 0 ""'), -2)
        self.assert_answer(TWO, do('make 3 0 ""', "split 1 1 3"), -2)
        self.assert_answer(TWO, do("split 1 1 3", 'make 5 0 ""'), -2)
        self.assert_answer(TWO, do('make 3 0 ""', "drop 3", 'make 3 0 ""'), -2)
        self.assert_answer(TWO, do('make 3 0 ""', "drop 3", 'make 4 0 ""'), 1)

    def test_a_number_above_99(self):
        full = session('cell 1 0 "a"', "here", upto=100)
        self.assert_answer(full, do('make 100 0 ""'), -2)
        self.assert_answer(full, do("split 1 0 100"), -2)
        self.assert_answer(full, do('make 99 0 ""'), -2)
        nearly = session('cell 1 0 "a"', "here", upto=99)
        self.assert_answer(nearly, do("split 1 0 99", 'make 100 0 ""'), -2)
        self.assertEqual(written(read(nearly), do("split 1 0 99")),
                         session('cell 1 0 "a"', "step", "split 1 0 99", "here", upto=100))

    def test_an_empty_x_of_replace(self):
        self.assert_answer(TWO, do('replace "" "a"'), -2)
        self.assert_answer(NEW, do('replace "" ""'), -2)


class CannotBeDone(DoCase):
    def test_make(self):
        self.assert_answer(TWELVE, do('make 13 0 ""'), -3)
        self.assert_answer(TWELVE, do("drop 1", 'make 13 0 ""', 'make 14 0 ""'), -3)
        self.assert_answer(TWELVE, do("drop 1", 'make 13 0 ""'), 1)
        self.assert_answer(TWO, do('make 3 3 ""'), -3)
        self.assert_answer(TWO, do('make 3 9 ""'), -3)

    def test_write(self):
        for number in (0, 3, 999999999):
            self.assert_answer(TWO, do(f'write {number} ""'), -3)

    def test_move(self):
        for edit in ("move 3 0", "move 0 0", "move 1 3", "move 1 1"):
            self.assert_answer(TWO, do(edit), -3)

    def test_drop_and_hide(self):
        for edit in ("drop 3", "drop 0", "hide 3 1", "hide 0 0"):
            self.assert_answer(TWO, do(edit), -3)
        self.assert_answer(TWO, do("drop 1", "drop 1"), -3)

    def test_split(self):
        for edit in ("split 9 0 3", "split 0 0 3", "split 3 0 3", "split 1 3 3", "split 2 200 3"):
            self.assert_answer(TWO, do(edit), -3)
        self.assert_answer(TWELVE, do("split 1 0 13"), -3)

    def test_join(self):
        for edit in ("join 3", "join 0", "join 2", "join 1"):
            self.assert_answer(TWO, do(edit), -3)

    def test_swap(self):
        for edit in ("swap 1 3", "swap 3 1", "swap 3 3", "swap 0 1"):
            self.assert_answer(TWO, do(edit), -3)

    def test_replace(self):
        self.assert_answer(TWO, do('replace "c" "cc"'), -3)
        self.assert_answer(TWO, do('replace "a" "' + 200 * "a" + '"'), -3)
        self.assert_answer(TWO, do('replace "a" "' + 199 * "a" + '"'), 1)

    def test_a_later_edit(self):
        self.assert_answer(TWO, do('make 3 0 ""', "hide 1 1", "drop 9"), -3)


class TooManySteps(DoCase):
    FULL = session('cell 1 0 ""', *20 * ["step", "hide 1 1"], "here", upto=2)

    def test_twenty_done(self):
        self.assert_answer(self.FULL, do("hide 1 1"), -4)

    def test_twenty_of_which_not_all_are_done(self):
        self.assertEqual(ask(read(self.FULL), UNDO, do("hide 1 0"), do("hide 1 0")), [[0], [19], [20], [-4]])
        undone = session('cell 1 0 ""', "here", *20 * ["step", "hide 1 1"], upto=2)
        self.assert_answer(undone, do("drop 1"), 1)


class WhichRefusal(DoCase):
    def test_lines_first(self):
        self.assert_answer(TWO, do("drop 9", "drop"), -1)
        self.assert_answer(TWO, do('replace "" ""', "drop 1 "), -1)
        self.assert_answer(TWO, do(*11 * ["hide 1 1"], "end"), -1)
        self.assert_answer(TooManySteps.FULL, do("hide 1"), -1)

    def test_the_first_line_that_has_one(self):
        self.assert_answer(TWO, do("drop 9", 'replace "" ""'), -3)
        self.assert_answer(TWO, do('replace "" ""', "drop 9"), -2)
        self.assert_answer(TWO, do("drop 9", *10 * ["hide 1 1"]), -3)
        self.assert_answer(TWO, do('make 9 0 ""', *10 * ["drop 9"]), -2)

    def test_of_one_line_the_range_first(self):
        self.assert_answer(TWO, do('make 1 9 ""'), -2)
        self.assert_answer(TWO, do("split 9 0 9"), -2)
        self.assert_answer(TWELVE, do('make 14 0 ""'), -2)

    def test_too_many_steps_last(self):
        self.assert_answer(TooManySteps.FULL, do("drop 9"), -3)
        self.assert_answer(TooManySteps.FULL, do('make 9 0 ""'), -2)
        self.assert_answer(TooManySteps.FULL, do("hide 1 1", "hide 1 0"), -4)


class UndoneSteps(DoCase):
    def test_they_are_gone(self):
        self.assertEqual(written(do('make 1 0 ""'), do("hide 1 1"), do("drop 1"), UNDO, UNDO, do("swap 1 1")),
                         session("step", 'make 1 0 ""', "step", "swap 1 1", "here", upto=2))

    def test_their_numbers_are_not_made_again(self):
        self.assertEqual(ask(do('make 1 0 ""'), UNDO, do('make 1 0 ""'), do('make 2 0 ""'), WRITE)[:-1],
                         [[1], [0], [-2], [1]])
        self.assertEqual(written(do('make 1 0 ""'), UNDO, do('make 2 0 ""')),
                         session("step", 'make 2 0 ""', "here", upto=3))

    def test_the_next_number_stays_without_a_make(self):
        text = session('cell 1 0 ""', "here", "step", 'make 7 0 ""', upto=30)
        self.assertEqual(written(read(text), do("hide 1 1")),
                         session('cell 1 0 ""', "step", "hide 1 1", "here", upto=30))

    def test_a_refused_call_leaves_them(self):
        text = session('cell 1 0 ""', "here", "step", 'make 2 0 ""', upto=3)
        for call in (do_row([]), do("drop"), do('make 2 0 ""'), do('make 3 0 ""', "drop 2"), do("drop 9")):
            self.assertEqual(written(read(text), call), text)
            self.assertEqual(ask(read(text), call, REDO, do('make 3 2 ""'))[2:], [[1], [2]])
