"""write (promise 2): the session's text, and that it can be read again."""

import random
import unittest

from tests.helper import EXAMPLE, NEW, REDO, UNDO, WRITE, ask, do, read, row, seed, session, written


class Write(unittest.TestCase):
    def test_the_new_session(self):
        self.assertEqual(ask(WRITE), [[len(NEW)] + row(NEW)])

    def test_the_example(self):
        self.assertEqual(written(seed(7), do('make 1 0 "\\"a"')), EXAMPLE)

    def test_the_seed(self):
        for number in (0, 1, 10, 999999999):
            self.assertEqual(written(seed(number)), NEW.replace("seed 0", f"seed {number}"))

    def test_all_edits(self):
        edits = ['make 1 0 "ab"', "split 1 1 2", "swap 1 2", "move 1 0", "hide 2 1", 'write 2 "q"', "join 1",
                 'replace "a" ""', "drop 1"]
        self.assertEqual(written(do(*edits)), session("step", *edits, "here", upto=3))

    def test_done_and_undone_steps(self):
        steps = [do('make 1 0 "x"'), do('make 2 1 ""', "hide 1 1"), do("drop 2")]
        told = ["step", 'make 1 0 "x"', "step", 'make 2 1 ""', "hide 1 1", "step", "drop 2"]
        self.assertEqual(written(*steps), session(*told, "here", upto=3))
        self.assertEqual(written(*steps, UNDO), session(*told[:5], "here", *told[5:], upto=3))
        self.assertEqual(written(*steps, UNDO, UNDO), session(*told[:2], "here", *told[2:], upto=3))
        self.assertEqual(written(*steps, UNDO, UNDO, UNDO), session("here", *told, upto=3))
        self.assertEqual(written(*steps, UNDO, UNDO, REDO), session(*told[:5], "here", *told[5:], upto=3))

    def test_cells_are_those_of_the_base_in_their_order(self):
        text = session('cell 9 1 "p"', 'cell 2 0 ""', "step", "drop 9", "here", "step", "swap 2 2", seed=12)
        self.assertEqual(written(read(text)), text)
        self.assertEqual(written(read(text), REDO, UNDO), text)

    def test_every_byte(self):
        for byte in range(256):
            sign = chr(byte) if 32 <= byte <= 126 else f"\\x{byte:02x}"
            sign = {10: "\\n", 34: '\\"', 92: "\\\\"}.get(byte, sign)
            for edit in (f'make 1 0 "{sign}a"', f'make 1 0 "{sign}{sign}"'):
                self.assertEqual(written(do(edit)), session("step", edit, "here", upto=2))

    def test_all_bytes_in_order(self):
        text = session('cell 1 0 "' + "".join(f"\\x{byte:02x}" for byte in range(10)) + '\\n"',
                       'cell 2 0 "' + "".join(f"\\x{byte:02x}" for byte in range(11, 32)) + ' !\\"#"',
                       'cell 3 1 "Z[\\\\]~\\x7f"',
                       'cell 4 1 "' + "".join(f"\\x{byte:02x}" for byte in range(128, 256)) + '"', "here")
        self.assertEqual(written(read(text)), text)

    def test_writing_changes_nothing(self):
        told = ask(do('make 1 0 ""'), WRITE, WRITE, UNDO, WRITE, REDO, WRITE)
        self.assertEqual(told[1], told[2])
        self.assertEqual(told[1], told[6])

    def test_a_long_text(self):
        cells = [f'make {n} 0 "{100 * chr(92)}"' for n in range(1, 7)]
        calls = [do(*cells)] + 19 * [do('write 1 "' + 149 * "\\x00" + '"')]
        text = written(*calls)
        self.assertEqual(text, session(
            "step", *cells, *19 * ["step", 'write 1 "' + 149 * "\\x00" + '"'], "here", upto=7))


class WrittenAndReadAgain(unittest.TestCase):
    def random_text(self, source):
        signs = ["a", "b", " ", "~", "\\n", '\\"', "\\\\", "\\x00", "\\x7f", "\\xff"]
        return "".join(source.choice(signs) for k in range(source.randrange(6)))

    def random_edit(self, source, upto):
        number = source.randrange(1, 6)
        text = self.random_text(source)
        return source.choice([
            f'make {upto} 0 "{text}"', f'make {upto} {number} "{text}"', f'write {number} "{text}"',
            f"move {number} {source.randrange(6)}", f"drop {number}", f"hide {number} {source.randrange(2)}",
            f"split {number} {source.randrange(3)} {upto}", f"join {number}",
            f"swap {number} {source.randrange(1, 6)}", f'replace "a{text}" "{self.random_text(source)}"'])

    def next_number(self, calls):
        return int(written(*calls).split("\n")[2].split(" ")[1])

    def random_calls(self, source):
        calls = [seed(source.randrange(10 ** 9)), do('make 1 0 "ab"', 'make 2 0 "a"')]
        for k in range(36):
            edit = self.random_edit(source, self.next_number(calls))
            calls.append(source.choice([do(edit), do(edit), do(edit), UNDO, REDO]))
        return calls

    def test_what_is_written_is_read_without_a_fault_and_written_again(self):
        for start in range(30):
            text = written(*self.random_calls(random.Random(start)))
            self.assertEqual(ask(read(text)), [[0]], text)
            self.assertEqual(written(read(text)), text)
