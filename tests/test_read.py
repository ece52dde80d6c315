"""read and check (promise 1): texts without a fault, and each kind of fault with its place."""

import unittest

from tests.helper import EXAMPLE, NEW, ask, check, do, marked, read, row, seed, session, written

HEAD = "notebook 1\nseed 7\nnext 50\n"
STEP = HEAD + 'cell 1 0 "ab"\ncell 2 1 "c"\nstep\n'

# For each sort of line: what stands before it, and one that fits there.
SORTS = [
    ("", "notebook 1\n"),
    ("notebook 1\n", "seed 907\n"),
    ("notebook 1\nseed 7\n", "next 50\n"),
    (HEAD, 'cell 12 1 "a\\n\\\\\\"\\x7f\\x0b"\n'),
    (HEAD, "step\n"),
    (HEAD, "here\n"),
    (HEAD + "here\n", "step\n"),
    (HEAD + "here\n", "end\n"),
    (STEP, 'make 31 2 "xy\\x00"\n'),
    (STEP, 'write 1 "\\xff "\n'),
    (STEP, "move 2 1\n"),
    (STEP, "drop 2\n"),
    (STEP, "hide 1 1\n"),
    (STEP, "split 1 2 40\n"),
    (STEP, "join 1\n"),
    (STEP, "swap 1 2\n"),
    (STEP, 'replace "a" ""\n'),
    (STEP + "drop 1\n", "step\n"),
    (STEP + "drop 1\n", "here\n"),
    (STEP + "drop 1\nhere\nstep\ndrop 2\n", "end\n"),
]

ALL_LINES = [
    "notebook 1", "seed 1", "next 50", 'cell 9 0 ""', "step", "here", "end",
    'make 30 0 ""', 'write 1 ""', "move 1 0", "drop 1", "hide 1 0", "split 1 0 30", "join 1", "swap 1 1",
    'replace "a" "b"',
]
EDIT_LINES = ALL_LINES[7:]


class ReadCase(unittest.TestCase):
    def assert_told(self, text, *answer):
        self.assertEqual(ask(read(text)), [list(answer)], text)
        self.assertEqual(ask(check(text)), [list(answer)], text)

    def assert_fine(self, text):
        self.assert_told(text, 0)
        self.assertEqual(written(read(text)), text)

    def assert_fault(self, kind, text):
        """The fault stands at the sign @."""
        plain, place = marked(text)
        self.assert_told(plain, kind, place)


class WithoutFault(ReadCase):
    def test_the_documents_example(self):
        self.assert_fine(EXAMPLE)

    def test_the_new_session(self):
        self.assert_fine(NEW)

    def test_cells_done_and_undone_steps(self):
        self.assert_fine(session(
            'cell 7 1 "x"', 'cell 3 0 ""', "step", 'make 8 3 "\\\\"', "split 7 1 10", "step", "join 7",
            "here", "step", "drop 8", "hide 3 1", "step", 'replace "x" "y"'))

    def test_only_undone_steps(self):
        self.assert_fine(session("here", "step", 'make 1 0 ""', "step", "drop 1"))

    def test_the_greatest_of_everything(self):
        self.assert_fine(session("here", seed=999999999, upto=100))
        self.assert_fine(session('cell 99 0 ""', "here", upto=100))
        self.assert_fine(session("step", 'make 99 0 ""', "here", upto=100))
        self.assert_fine(session('cell 1 0 "' + 200 * "a" + '"', "here"))
        self.assert_fine(session('cell 1 0 "' + 200 * "\\x00" + '"', "here"))
        self.assert_fine(session(*[f'cell {n} 0 ""' for n in range(12, 0, -1)], "here"))
        self.assert_fine(session('cell 1 0 ""', "step", *10 * ["swap 1 1"], "here"))

    def test_twenty_steps_over_both_halves(self):
        self.assert_fine(session('cell 1 0 ""', *20 * ["step", "hide 1 1"], "here"))
        self.assert_fine(session('cell 1 0 ""', *13 * ["step", "hide 1 1"], "here", *7 * ["step", "hide 1 0"]))

    def test_every_byte_of_a_text(self):
        for byte in range(256):
            sign = f"\\x{byte:02x}"
            if 32 <= byte <= 126:
                sign = chr(byte)
            sign = {10: "\\n", 34: '\\"', 92: "\\\\"}.get(byte, sign)
            self.assert_fine(session(f'cell 1 0 "{sign}"', "here"))

    def test_numbers_made_may_leave_gaps(self):
        self.assert_fine(session('cell 5 0 ""', "step", 'make 9 5 ""', "here", "step", "split 9 0 49"))


class TheExamplesBrokenVersions(ReadCase):
    def test_seed_07(self):
        self.assert_told(EXAMPLE.replace("seed 7", "seed 07"), 1, 17)

    def test_mark_for_make(self):
        text = EXAMPLE.replace("make", "mark")
        self.assert_told(text, 1, text.index("mark") + 2)

    def test_without_its_last_byte(self):
        self.assert_told(EXAMPLE[:-1], 1, len(EXAMPLE) - 1)

    def test_next_1(self):
        text = EXAMPLE.replace("next 2", "next 1")
        self.assert_told(text, 2, text.index("make"))


class FaultOne(ReadCase):
    def test_a_wrong_byte_at_each_place_of_each_sort_of_line(self):
        for before, line in SORTS:
            for place in range(len(line)):
                for wrong in (0, 127, 200, 255, 256, -1, -10 ** 18, 10 ** 18):
                    numbers = row(before + line)
                    numbers[len(before) + place] = wrong
                    self.assert_told(numbers + row("end\n"), 1, len(before) + place)

    def test_a_text_that_ends_early_at_each_place_of_each_sort_of_line(self):
        for before, line in SORTS:
            for place in range(len(line)):
                text = before + line[:place]
                self.assert_told(text, 1, len(text))

    def test_the_empty_list(self):
        self.assert_told("", 1, 0)

    def test_every_beginning_of_a_text(self):
        text = session('cell 1 1 "\\x07"', "step", "drop 1", "here", "step", 'make 2 0 "\\n"')
        for place in range(len(text)):
            self.assert_told(text[:place], 1, place)

    def test_the_first_line(self):
        for text in ("notebook @2\n", "notebook 1@2\n", "notebook@1\n", "@ notebook 1\n", "@\nnotebook 1\n", "@seed 7\n"):
            self.assert_fault(1, text)

    def test_numbers(self):
        for text in ("seed 0@0\n", "seed 0@1\n", "seed 123456789@0\n", "seed @-1\n", "seed @+1\n", "seed 1@.0\n",
                     "seed @\n", "seed@\n", "seed @ 1\n", "seed 1@ \n", "seed 1@ 2\n", "seed @a\n", "seed 12@a\n",
                     "seed 1@_0\n", 'seed @"1"\n', "seed 7@\r\n"):
            self.assert_fault(1, "notebook 1\n" + text + "next 1\nhere\nend\n")

    def test_numbers_in_every_field(self):
        for text in ("make 01 0 \"\"", "make 30 00 \"\"", "write 01 \"\"", "move 01 0", "move 1 00", "drop 01",
                     "hide 01 0", "split 01 0 30", "split 1 00 30", "split 1 0 030", "join 01", "swap 01 1",
                     "swap 1 01"):
            fields = text.split(" ")
            field = [k for k, part in enumerate(fields) if len(part) > 1 and part[0] == "0"][0]
            before = " ".join(fields[:field]) + " 0"
            self.assert_told(STEP + text + "\nhere\nend\n", 1, len(STEP + before))
            tenth = " ".join(fields[:field] + ["1234567890"])
            behind = "".join(" " + part for part in fields[field + 1:])
            self.assert_told(STEP + tenth + behind + "\nhere\nend\n", 1, len(STEP + tenth) - 1)

    def test_ten_digits_without_an_end(self):
        self.assert_told("notebook 1\nseed 1234567890", 1, 25)
        self.assert_told("notebook 1\nseed 123456789", 1, 25)

    def test_marks(self):
        for text in ("hide 1 @2\n", "hide 1 1@0\n", "hide 1 0@0\n", "hide 1 @\n", "hide 1@\n", "hide 1 @-1\n",
                     "hide 1 @a\n", 'hide 1 @"\n', "hide 1 0@ \n"):
            self.assert_fault(1, STEP + text + "here\nend\n")
        for text in ('cell 3 @2 ""\n', 'cell 3 0@1 ""\n', 'cell 3 0@""\n', 'cell 3 @""\n', "cell 3 0@\n"):
            self.assert_fault(1, HEAD + text + "here\nend\n")

    def test_bytes_written_in_another_way(self):
        for inside in ("\\x@41", "\\x@20", "\\x@6e", "\\x@5c", "\\x@22", "\\x7@e", "\\x7@0", "\\x0@a", "\\x0@A",
                       "\\x@A0", "\\xf@F", "\\x@g0", "\\x8@g", "\\x@", "\\x0@", "\\@r", "\\@t", "\\@0", "\\@X41",
                       "\\@N", "\\@ ", "\\@'", "a\\x@3f", "\\x@ 7", "\\x0@ "):
            self.assert_fault(1, STEP + f'write 1 "{inside}"\nhere\nend\n')
            self.assert_fault(1, STEP + f'replace "a" "{inside}"\nhere\nend\n')
            self.assert_fault(1, HEAD + f'cell 1 0 "{inside}"\nhere\nend\n')

    def test_each_second_digit_behind_each_first(self):
        for byte in range(256):
            written_so = byte != 10 and not 32 <= byte <= 126
            before = STEP + 'write 1 "\\x'
            text = before + f'{byte:02x}"\nhere\nend\n'
            first_stands = byte // 16 in (0, 1, 7) or byte // 16 >= 8
            if written_so:
                self.assert_told(text, 0)
            else:
                self.assert_told(text, 1, len(before) + (1 if first_stands else 0))

    def test_bytes_that_stand_in_no_text_as_they_are(self):
        for byte in [*range(32), *range(127, 256), 256, 1000, -1, -34, 10 ** 18, -10 ** 18]:
            before = row(STEP + 'write 1 "a')
            self.assert_told(before + [byte] + row('"\nhere\nend\n'), 1, len(before))

    def test_a_number_that_is_no_byte_everywhere(self):
        for wrong in (-1, 256, 10 ** 18, -10 ** 18, 110 + 256, 10 - 256):
            for place in range(len(EXAMPLE)):
                numbers = row(EXAMPLE)
                numbers[place] = wrong
                self.assert_told(numbers, 1, place)

    def test_a_text_of_more_than_200_bytes(self):
        for sign in ("a", "\\\\", '\\"', "\\n", "\\x00", "\\xff"):
            for more in ("@b", "@\\\\", "@\\n", "@\\x07", '@\\"'):
                text = f'write 1 "{200 * sign}{more}"\n'
                self.assert_fault(1, STEP + text + "here\nend\n")
            self.assert_told(STEP + f'write 1 "{200 * sign}"\nhere\nend\n', 0)
        self.assert_fault(1, HEAD + 'cell 1 0 "' + 200 * "a" + '@a"\n')
        self.assert_fault(1, STEP + 'make 30 0 "' + 200 * "a" + '@a"\n')
        self.assert_fault(1, STEP + 'replace "' + 200 * "a" + '@a" ""\n')
        self.assert_fault(1, STEP + 'replace "x" "' + 200 * "a" + '@a"\n')

    def test_a_text_of_200_bytes_without_its_end(self):
        text = STEP + 'write 1 "' + 200 * "a"
        self.assert_told(text, 1, len(text))

    def test_quotes(self):
        for text in ("write 1 @a\n", "write 1 @'a'\n", 'write 1 ""@"\n', 'write 1 "a"@b\n', 'write 1 "a"@ \n',
                     'write 1 "a@\n', 'write 1@"a"\n', 'replace "a"@\n', 'replace "a"@"b"\n', 'replace "a" @b\n'):
            self.assert_fault(1, STEP + text + "here\nend\n")

    def test_blanks(self):
        for text in ("drop @ 1\n", "drop@\t1\n", "@ drop 1\n", "drop 1@ \n", "swap 1@\n", "swap 1 @ 2\n",
                     "swap 1@,2\n", "move 1 @\n", "split 1 1@\n", "join @\n", "join@\n"):
            self.assert_fault(1, STEP + text + "here\nend\n")

    def test_words(self):
        for text in ("ma@rk 1\n", "m@\n", "s@tep\n", "sp@an 1\n", "h@ere\n", "@end\n", "@cell 3 0 \"\"\n", "wri@de\n",
                     "d@o\n", "@Drop 1\n", "drop@s 1\n", "@\n", "@notebook 1\n", "sw@itch 1 2\n", "re@ad\n",
                     "jo@n 1\n", "mov@ 1 2\n"):
            self.assert_fault(1, STEP + text + "here\nend\n")

    def test_words_where_a_step_may_stand_too(self):
        for text in ("st@ay\n", "s@eed 7\n", "step@s\n", "step@ \n", "he@ad\n", "hi@t\n", "h@op\n"):
            self.assert_fault(1, STEP + "drop 1\n" + text + "here\nend\n")

    def test_which_lines_may_come_next(self):
        places = [
            ("", ["notebook 1"]),
            ("notebook 1\n", ["seed 1"]),
            ("notebook 1\nseed 7\n", ["next 50"]),
            (HEAD, ['cell 9 0 ""', "step", "here"]),
            (HEAD + 'cell 1 0 ""\n', ['cell 9 0 ""', "step", "here"]),
            (STEP, EDIT_LINES),
            (STEP + "hide 1 1\n", EDIT_LINES + ["step", "here"]),
            (STEP + "hide 1 1\nstep\n", EDIT_LINES),
            (STEP + "hide 1 1\nhere\n", ["step", "end"]),
            (HEAD + "here\n", ["step", "end"]),
            (STEP + "hide 1 1\nhere\nstep\n", EDIT_LINES),
            (STEP + "hide 1 1\nhere\nstep\nhide 1 0\n", EDIT_LINES + ["step", "end"]),
        ]
        for before, fitting in places:
            for line in ALL_LINES:
                text = before + line + "\n"
                answer = ask(check(text))[0]
                if line in fitting:
                    # What is wrong then is only that the text ends behind the line.
                    self.assertEqual(answer, [0] if line == "end" else [1, len(text)], text)
                else:
                    starts = [other for other in fitting if other[0] == line[0]]
                    self.assertEqual(answer[0], 1, text)
                    self.assertTrue(len(before) <= answer[1] < len(before) + len(line), text)
                    if not starts:
                        self.assertEqual(answer[1], len(before), text)

    def test_a_line_may_not_come_twice(self):
        self.assert_fault(1, "notebook 1\n@notebook 1\n")
        self.assert_fault(1, "notebook 1\nseed 1\n@seed 1\n")
        self.assert_fault(1, HEAD + "@next 50\n")
        self.assert_fault(1, HEAD + "here\n@here\n")
        self.assert_fault(1, STEP + "drop 1\nhere\nstep\ndrop 2\nh@ere\n")

    def test_a_step_without_edits(self):
        self.assert_fault(1, HEAD + "step\ns@tep\n")
        self.assert_fault(1, HEAD + "step\nh@ere\n")
        self.assert_fault(1, HEAD + "here\nstep\n@end\n")
        self.assert_fault(1, HEAD + "here\nstep\ns@tep\n")


class FaultTwo(ReadCase):
    def test_a_next_number(self):
        for number in (0, 101, 102, 999999999):
            self.assert_fault(2, f"notebook 1\nseed 7\n@next {number}\nhere\nend\n")
        self.assert_fine(session("here", upto=1))
        self.assert_fine(session("here", upto=100))

    def test_a_cells_number(self):
        for number in (0, 50, 51, 99, 100, 999999999):
            self.assert_fault(2, session(f'@cell {number} 0 ""', "here"))
        self.assert_fine(session('cell 49 0 ""', 'cell 1 0 ""', "here"))
        for number in (0, 100, 101):
            self.assert_fault(2, session(f'@cell {number} 0 ""', "here", upto=100))
        self.assert_fault(2, session('@cell 1 0 ""', "here", upto=1))

    def test_a_number_of_a_cell_before(self):
        self.assert_fault(2, session('cell 3 0 ""', '@cell 3 0 ""', "here"))
        self.assert_fault(2, session('cell 3 0 ""', 'cell 2 0 ""', '@cell 3 1 "a"', "here"))

    def test_a_thirteenth_cell(self):
        cells = [f'cell {number} 0 ""' for number in range(1, 13)]
        self.assert_fault(2, session(*cells, '@cell 13 0 ""', "here"))
        self.assert_fine(session(*cells, "here"))

    def test_a_twenty_first_step(self):
        step = ["step", "hide 1 1"]
        self.assert_fault(2, session('cell 1 0 ""', *20 * step, "@step", "hide 1 1", "here"))
        self.assert_fault(2, session('cell 1 0 ""', *20 * step, "here", "@step", "hide 1 1"))
        self.assert_fault(2, session('cell 1 0 ""', *7 * step, "here", *13 * step, "@step", "hide 1 1"))

    def test_an_eleventh_edit(self):
        self.assert_fault(2, session('cell 1 0 ""', "step", *10 * ["hide 1 1"], "@hide 1 1", "here"))
        self.assert_fault(2, session('cell 1 0 ""', "here", "step", *10 * ["hide 1 1"], "@hide 1 1"))
        self.assert_fault(2, session(
            'cell 1 0 ""', "step", *4 * ["hide 1 1"], "step", *10 * ["hide 1 1"], "@drop 7", "here"))
        self.assert_fine(session('cell 1 0 ""', *2 * ["step", *10 * ["hide 1 1"]], "here"))

    def test_a_number_made(self):
        for edit in ('@make {} 0 ""', "@split 1 0 {}"):
            for number in (0, 1, 4, 5, 50, 51, 99, 100, 999999999):
                self.assert_fault(2, session('cell 5 0 ""', 'cell 1 0 "a"', "step", edit.format(number), "here"))
            for number in (6, 49):
                self.assert_fine(session(
                    'cell 5 0 ""', 'cell 1 0 "a"', "step", edit[1:].format(number), "here"))
        self.assert_fault(2, session("step", '@make 0 0 ""', "here"))
        self.assert_fault(2, session("step", '@make 100 0 ""', "here", upto=100))

    def test_a_number_made_before(self):
        for first in ('make 20 0 "a"', "split 1 0 20"):
            for second in ('@make {} 0 ""', "@split 1 0 {}"):
                for number in (2, 19, 20):
                    edit = second.format(number)
                    self.assert_fault(2, session('cell 1 0 "a"', "step", first, edit, "here"))
                    self.assert_fault(2, session('cell 1 0 "a"', "step", first, "drop 20", edit, "here"))
                    self.assert_fault(2, session('cell 1 0 "a"', "step", first, "step", edit, "here"))
                    self.assert_fault(2, session('cell 1 0 "a"', "step", first, "here", "step", edit))
                self.assert_fine(session('cell 1 0 "a"', "step", first, second[1:].format(21), "here"))

    def test_a_number_of_a_base_cell_that_is_gone(self):
        self.assert_fault(2, session('cell 5 0 ""', "step", "drop 5", '@make 5 0 ""', "here"))
        self.assert_fault(2, session('cell 5 0 ""', "step", "drop 5", '@make 4 0 ""', "here"))
        self.assert_fine(session('cell 5 0 ""', "step", "drop 5", 'make 6 0 ""', "here"))

    def test_an_empty_x_of_replace(self):
        self.assert_fault(2, session("step", '@replace "" "a"', "here"))
        self.assert_fault(2, session('cell 1 0 "a"', "here", "step", '@replace "" ""'))
        self.assert_fine(session('cell 1 0 "a"', "step", 'replace "a" ""', "here"))


class FaultThree(ReadCase):
    TWELVE = [f'cell {number} 0 "ab"' for number in range(1, 13)]
    TWO = ['cell 1 0 "ab"', 'cell 2 1 "' + 199 * "c" + '"']

    def assert_refused(self, base, edit):
        self.assert_fault(3, session(*base, "step", "@" + edit, "here"))
        self.assert_fault(3, session(*base, "here", "step", "@" + edit))

    def test_make(self):
        self.assert_refused(self.TWELVE, 'make 20 0 ""')
        self.assert_refused(self.TWELVE, 'make 20 12 ""')
        self.assert_refused(self.TWO, 'make 20 3 ""')
        self.assert_refused(self.TWO, 'make 20 20 ""')
        self.assert_refused([], 'make 20 1 ""')
        self.assert_fine(session(*self.TWELVE[:11], "step", 'make 20 11 ""', "here"))

    def test_write(self):
        for number in (0, 3, 100, 999999999):
            self.assert_refused(self.TWO, f'write {number} ""')

    def test_move(self):
        for edit in ("move 3 0", "move 0 1", "move 3 1", "move 1 3", "move 1 1", "move 2 2"):
            self.assert_refused(self.TWO, edit)
        self.assert_refused(self.TWO[:1], "move 1 1")
        self.assert_fine(session(*self.TWO, "step", "move 1 0", "move 1 2", "move 1 2", "here"))

    def test_drop(self):
        for number in (0, 3, 999999999):
            self.assert_refused(self.TWO, f"drop {number}")

    def test_hide(self):
        for number in (0, 3):
            self.assert_refused(self.TWO, f"hide {number} 0")
            self.assert_refused(self.TWO, f"hide {number} 1")

    def test_split(self):
        for edit in ("split 3 0 20", "split 0 0 20", "split 20 0 21", "split 1 3 20", "split 1 999999999 20"):
            self.assert_refused(self.TWO, edit)
        self.assert_refused(self.TWELVE, "split 1 1 20")
        self.assert_fine(session(*self.TWO, "step", "split 1 2 20", "split 1 0 21", "here"))

    def test_join(self):
        for edit in ("join 3", "join 0", "join 2", "join 1"):
            self.assert_refused(self.TWO, edit)
        self.assert_fine(session(*self.TWO, "step", 'write 1 "a"', "join 1", "here"))

    def test_swap(self):
        for edit in ("swap 1 3", "swap 3 1", "swap 3 3", "swap 0 1", "swap 1 0", "swap 0 0"):
            self.assert_refused(self.TWO, edit)
        self.assert_fine(session(*self.TWO, "step", "swap 1 1", "swap 1 2", "swap 2 1", "here"))

    def test_replace(self):
        self.assert_refused(self.TWO, 'replace "c" "dd"')
        self.assert_refused(self.TWO, 'replace "ccc" "dddddd"')
        self.assert_refused(self.TWO, 'replace "a" "' + 200 * "a" + '"')
        self.assert_fine(session(*self.TWO, "step", 'replace "a" "' + 199 * "a" + '"', "here"))

    def test_the_document_changes_with_each_edit(self):
        self.assert_fault(3, session(*self.TWO, "step", "drop 1", "@hide 1 0", "here"))
        self.assert_fault(3, session(*self.TWO, "step", "drop 1", "step", "@hide 1 0", "here"))
        self.assert_fault(3, session(*self.TWO, "step", "drop 1", "here", "step", "@hide 1 0"))
        self.assert_fault(3, session("step", 'make 1 0 ""', "here", "step", "drop 1", "step", "@drop 1"))


class FaultFour(ReadCase):
    def test_something_behind_end(self):
        for behind in ("\n", " ", "end\n", "step\n", "x", NEW, "\x00"):
            self.assert_told(EXAMPLE + behind, 4, len(EXAMPLE))
            self.assert_told(NEW + behind, 4, len(NEW))

    def test_a_number_that_is_no_byte_behind_end(self):
        for wrong in (-1, 256, 10 ** 18, -10 ** 18):
            self.assert_told(row(NEW) + [wrong], 4, len(NEW))

    def test_something_right_behind_the_word_end(self):
        self.assert_fault(1, NEW[:-1] + "@ \n")
        self.assert_fault(1, NEW[:-1] + "@end\n")


class SeveralFaults(ReadCase):
    def test_the_first_line_tells(self):
        self.assert_fault(2, 'notebook 1\nseed 7\n@next 0\nwrong\n')
        self.assert_fault(1, 'notebook 1\nseed 0@7\nnext 0\nhere\nend\nmore\n')
        self.assert_fault(2, session('@cell 0 0 ""', "step", "drop 9", "here") + "more")
        self.assert_fault(3, session("step", "@drop 9", 'replace "" ""', "here") + "more")
        self.assert_fault(3, session("step", "@drop 9", "nothing", "here"))
        self.assert_fault(2, session("step", '@replace "" ""', "drop 9", "here"))
        self.assert_fault(1, session("step", "dro@b 1", "drop 9", "here"))

    def test_of_one_line_the_first_kind_tells(self):
        self.assert_fault(1, 'notebook 1\nseed 7\nnext 101@x\n')
        self.assert_fault(1, 'notebook 1\nseed 7\nnext 0@0\n')
        self.assert_fault(1, 'notebook 1\nseed 7\nnext 101@')
        self.assert_fault(1, session('cell 0 @2 ""', "here"))
        self.assert_fault(1, session("step", 'make 0 0 @a', "here"))
        self.assert_fault(1, session("step", "drop 9@ ", "here"))
        self.assert_fault(1, HEAD + "step\ndrop 9@")
        self.assert_fault(2, session('cell 1 0 ""', "step", '@make 1 9 ""', "here"))
        self.assert_fault(2, session('cell 1 0 ""', "step", "@split 7 0 1", "here"))
        self.assert_fault(2, session('cell 1 0 ""', "step", *10 * ["hide 1 1"], "@drop 9", "here"))
        self.assert_fault(1, session('cell 1 0 ""', "step", *10 * ["hide 1 1"], "drop @x", "here"))
        self.assert_fault(1, session(*[f'cell {n} 0 ""' for n in range(1, 13)], 'cell 13 0@""', "here"))
        self.assert_fault(1, session('cell 1 0 ""', *20 * ["step", "hide 1 1"], "step@s", "here"))


class WhatIsHeld(ReadCase):
    FAULTY = [
        "", EXAMPLE[:-1], EXAMPLE + "x", EXAMPLE.replace("next 2", "next 1"), EXAMPLE.replace("make 1 0", "make 1 9"),
        session('cell 4 1 "z"', "step", "drop 4", "here", "step", "drop 4"),
    ]

    def test_read_holds_the_session_from_now_on(self):
        self.assertEqual(written(read(EXAMPLE)), EXAMPLE)
        self.assertEqual(written(read(EXAMPLE), read(NEW)), NEW)
        self.assertEqual(written(seed(5), do('make 1 0 ""'), read(EXAMPLE)), EXAMPLE)

    def test_the_position_and_the_next_number_are_read(self):
        text = session("step", 'make 1 0 ""', "here", "step", "drop 1", upto=30)
        self.assertEqual(ask(read(text), [6], [6], [5], [5], [5]), [[0], [2], [-6], [1], [0], [-6]])
        self.assertEqual(ask(read(text), do('make 2 0 ""'), do('make 30 1 ""')), [[0], [-2], [2]])

    def test_a_fault_leaves_the_session_as_it_was(self):
        held = session('cell 1 0 "a"', "step", "hide 1 1", "here", "step", "drop 1", seed=3)
        for text in self.FAULTY:
            self.assertEqual(written(read(held), read(text)), held)
            self.assertEqual(written(read(text)), NEW)
            self.assertEqual(ask(read(held), read(text), do("hide 1 0"), [5], [5]),
                             [[0], ask(read(text))[0], [2], [1], [0]])

    def test_check_changes_nothing(self):
        held = session('cell 1 0 "a"', "step", "hide 1 1", "here", "step", "drop 1", seed=3)
        for text in [*self.FAULTY, EXAMPLE, NEW]:
            self.assertEqual(written(read(held), check(text)), held)
            self.assertEqual(written(check(text)), NEW)
            self.assertEqual(ask(read(held), check(text), do('make 50 1 ""')), [[0], ask(check(text))[0], [2]])

    def test_a_long_text(self):
        text = session(*[f'cell {n} 0 "{200 * chr(92)}{200 * chr(92)}"' for n in range(1, 13)], "here")
        self.assert_fine(text)
