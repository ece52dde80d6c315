"""same (promise 11)."""

import unittest

from tests.helper import (
    DOCUMENTS, EXAMPLE, NEW, UNDO, append, ask, cell_lines, do, fold, read, row, same, sample, seed, session, to,
    written)

LONG = [do('make 1 0 "' + 200 * "a" + '"')] + 3 * [do('write 1 "' + 200 * "b" + '"')]


class JustTheText(unittest.TestCase):
    def test_the_text(self):
        self.assertEqual(ask(same(NEW)), [[1]])
        self.assertEqual(ask(seed(7), do('make 1 0 "\\"a"'), same(EXAMPLE))[-1], [1])
        for position in range(6):
            self.assertEqual(ask(read(sample(position)), same(sample(position))), [[0], [1]])

    def test_behind_other_calls(self):
        going_on = session(*cell_lines(DOCUMENTS[5]), "here", upto=30)
        for calls, text in (
                ([UNDO], sample(4)), ([to(1)], sample(1)), ([fold(2)], sample(5, 2)), ([seed(8)], sample(5, seed=8)),
                ([UNDO, fold(3), to(0)], sample(3, 3)), ([append(going_on)], sample(5, upto=30))):
            self.assertEqual(ask(read(sample(5)), *calls, same(text))[-1], [1], text)

    def test_a_text_of_700_bytes(self):
        text = session(*[f'cell {number} 0 "{200 * "a"}"' for number in (1, 2, 3)], "here")
        text = text.replace("here", 'cell 4 0 "' + (700 - len(text) - len('cell 4 0 ""\n')) * "a" + '"\nhere')
        self.assertEqual(len(text), 700)
        self.assertEqual(ask(read(text), same(text)), [[0], [1]])

    def test_every_kind_of_byte(self):
        text = session('cell 1 1 "\\x00\\n\\"\\\\ ~\\x7f\\xff"', "here")
        self.assertEqual(ask(read(text), same(text)), [[0], [1]])


class AnotherList(unittest.TestCase):
    def assert_other(self, numbers):
        self.assertEqual(ask(read(EXAMPLE), same(numbers)), [[0], [0]])

    def test_the_empty_list(self):
        self.assertEqual(ask(same([])), [[0]])
        self.assert_other([])

    def test_one_byte_less(self):
        text = row(EXAMPLE)
        for place in range(len(text)):
            self.assert_other(text[:place] + text[place + 1:])
            self.assert_other(text[:place])

    def test_one_more(self):
        text = row(EXAMPLE)
        for place in range(len(text) + 1):
            for more in (0, 10, 32, 48, -1, 256):
                self.assert_other(text[:place] + [more] + text[place:])

    def test_another_byte(self):
        text = row(EXAMPLE)
        for place in range(len(text)):
            for byte in (text[place] - 1, text[place] + 1, 0, 255):
                self.assert_other(text[:place] + [byte] + text[place + 1:])

    def test_a_number_that_is_no_byte(self):
        text = row(EXAMPLE)
        for place in range(len(text)):
            for wrong in (text[place] + 256, text[place] - 256, -1, 10 ** 18, -10 ** 18):
                self.assert_other(text[:place] + [wrong] + text[place + 1:])

    def test_the_text_of_another_session(self):
        self.assert_other(NEW)
        self.assert_other(EXAMPLE.replace("seed 7", "seed 8"))
        self.assert_other(EXAMPLE.replace("next 2", "next 3"))
        self.assert_other(EXAMPLE.replace("here\n", "").replace("next 2\n", "next 2\nhere\n"))
        self.assertEqual(ask(read(sample(3)), *[same(sample(position)) for position in range(6)])[1:],
                         [[0], [0], [0], [1], [0], [0]])

    def test_another_way_to_write_it(self):
        self.assert_other(EXAMPLE.replace("seed 7", "seed 07"))
        self.assert_other(EXAMPLE.replace("a", "\\x61"))

    def test_the_beginning_of_a_longer_text(self):
        text = written(*LONG)
        self.assertGreater(len(text), 700)
        self.assertEqual(ask(*LONG, same(text[:700]))[-1], [0])


class NothingIsChanged(unittest.TestCase):
    def test_write_behind_it(self):
        for text in (sample(3), sample(4), NEW, [], [-1]):
            self.assertEqual(written(read(sample(3)), same(text)), sample(3))
