"""Random walks through all calls: what holds between to, fold, append, whole, at, state, same, read and write."""

import random
import unittest

from tests.helper import (
    REDO, STATE, UNDO, WHOLE, append, ask, at, do, fold, read, same, seed, state, to, whole, written)


def random_text(source):
    signs = ["a", "b", "~", "\\n", '\\"', "\\x00", "\\xff"]
    return "".join(source.choice(signs) for k in range(source.randrange(3)))


def random_edit(source, upto):
    number = source.randrange(1, 6)
    return source.choice([
        f'make {upto} 0 "{random_text(source)}"', f'make {upto} {number} "{random_text(source)}"',
        f'write {number} "{random_text(source)}"', f"move {number} {source.randrange(6)}", f"drop {number}",
        f"hide {number} {source.randrange(2)}", f"split {number} 0 {upto}", f"join {number}",
        f"swap {number} {source.randrange(1, 6)}", f'replace "a" "{random_text(source)}"'])


def going_on(source, calls):
    """The text of a session that begins with the document that the calls leave, with steps of its own."""
    here = state(*calls)
    text = written(*calls, fold(here[2]), to(0))
    head = text[:text.index("here")]
    begun = [read(head + "here\nend\n"), seed(source.randrange(10 ** 9))]
    for k in range(source.randrange(4)):
        begun.append(do(random_edit(source, state(*begun)[1])))
    return written(*begun, *source.choice([[], [UNDO], [to(0)]]))


def random_calls(source):
    calls = [seed(source.randrange(10 ** 9)), do('make 1 0 "ab"', 'make 2 0 "a"')]
    for k in range(20):
        step = do(random_edit(source, state(*calls)[1]))
        choices = [step, step, step, UNDO, REDO, to(source.randrange(5)), fold(source.randrange(3))]
        if k % 5 == 4:
            choices = [append(going_on(source, calls))]
        calls.append(source.choice(choices))
    return calls


class Walks(unittest.TestCase):
    def walks(self):
        for start in range(25):
            calls = random_calls(random.Random(start))
            here = state(*calls)
            yield calls, here, here[2] + here[3]

    def test_appending_is_not_refused(self):
        for calls, here, steps in self.walks():
            for call, answer in zip(calls, ask(*calls)):
                if call[0] == 9:
                    self.assertGreaterEqual(answer[0], 0)

    def test_the_text_is_read_again_and_is_the_same(self):
        for calls, here, steps in self.walks():
            text = written(*calls)
            self.assertEqual(ask(read(text), same(text), same(text[:-1]), STATE, WHOLE),
                             [[0], [1], [0], here, whole(*calls)])
            self.assertEqual(written(read(text)), text)

    def test_at_is_what_whole_tells_there(self):
        for calls, here, steps in self.walks():
            self.assertEqual(ask(*calls, at(here[2]))[-1], whole(*calls))
            for position in range(steps + 1):
                self.assertEqual(ask(*calls, at(position))[-1], whole(*calls, to(position)))
            self.assertEqual(ask(*calls, at(-1), at(steps + 1), to(-1), to(steps + 1))[-4:], 4 * [[-5]])

    def test_to_and_back_leaves_the_text(self):
        for calls, here, steps in self.walks():
            for position in range(steps + 1):
                told = ask(*calls, to(position), STATE, to(here[2]), STATE)[-4:]
                self.assertEqual(told, [
                    [steps - position], [*here[:2], position, steps - position, here[4]], [here[3]], here])
                self.assertEqual(written(*calls, to(position), to(here[2])), written(*calls))

    def test_fold_leaves_the_documents_behind_it(self):
        for calls, here, steps in self.walks():
            for first in range(here[2] + 1):
                folded = [*calls, fold(first)]
                base = ask(*calls, at(first))[-1]
                self.assertEqual(ask(*folded)[-1], [steps - first])
                self.assertEqual(state(*folded), [*here[:2], here[2] - first, here[3], base[0]])
                for position in range(steps - first + 1):
                    self.assertEqual(ask(*folded, at(position))[-1], ask(*calls, at(first + position))[-1])
                self.assertEqual(ask(read(written(*folded))), [[0]])
