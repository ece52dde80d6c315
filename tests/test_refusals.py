"""A refused call leaves everything as it was: for each refusal of each call."""

import unittest

from tests.helper import (
    DOCUMENTS, NEW, REDO, STATE, UNDO, WHOLE, WRITE, append, ask, at, cell_lines, check, do, do_row, fold, read, row,
    same, sample, seed, session, step_lines, to)

# Three done steps and two undone ones, next number 20.
HERE = [read(sample(3))]
NONE_DONE = [read(sample(0))]
NONE_UNDONE = [read(sample(5))]
FULL = [read(session('cell 1 0 "a"', *20 * ["step", "swap 1 1"], "here", seed=3, upto=20))]
LAST = [read(sample(3, upto=100))]

NO_CELL = session("step", "drop 1", "here")


def going_on(*steps, cells=DOCUMENTS[3]):
    return session(*cell_lines(cells), *step_lines(list(steps), len(steps)), upto=30)


# What is called ahead, the call, and what it answers.
REFUSED = [
    (HERE, read([]), [1, 0]),
    (HERE, read(NEW[:-1]), [1, len(NEW) - 1]),
    (HERE, read(row(NEW) + [-1]), [4, len(NEW)]),
    (HERE, read(NEW + "\n"), [4, len(NEW)]),
    (HERE, read(NEW.replace("next 1", "next 0")), [2, NEW.index("next")]),
    (HERE, read(NO_CELL), [3, NO_CELL.index("drop")]),
    (HERE, check([]), [1, 0]),
    (HERE, check(NEW.replace("next 1", "next 0")), [2, NEW.index("next")]),
    (HERE, check(NO_CELL), [3, NO_CELL.index("drop")]),
    (HERE, check(NEW + NEW), [4, len(NEW)]),
    (HERE, check(NEW), [0]),
    (HERE, seed(-1), [-7]),
    (HERE, seed(10 ** 9), [-7]),
    (HERE, do_row([]), [-1]),
    (HERE, do("hide 8 0", "hide 8 2"), [-1]),
    (HERE, do_row(row("hide 8 0\n") + [256]), [-1]),
    (HERE, do(*11 * ["hide 8 0"]), [-2]),
    (HERE, do("hide 8 0", 'make 21 0 ""'), [-2]),
    (HERE, do('make 20 0 ""', "split 20 0 20"), [-2]),
    (HERE, do("drop 8", 'replace "" "a"'), [-2]),
    (LAST, do("drop 8", 'make 100 0 ""'), [-2]),
    (HERE, do('make 20 0 "p"', "drop 8", "drop 8"), [-3]),
    (FULL, do("hide 1 1", 'make 20 0 ""'), [-4]),
    (NONE_DONE, UNDO, [-6]),
    ([], UNDO, [-6]),
    (NONE_UNDONE, REDO, [-6]),
    ([], REDO, [-6]),
    (HERE, to(-1), [-5]),
    (HERE, to(6), [-5]),
    ([], to(1), [-5]),
    (HERE, fold(-1), [-5]),
    (HERE, fold(4), [-5]),
    (HERE, fold(5), [-5]),
    (HERE, fold(6), [-5]),
    (HERE, append([]), [-1]),
    (HERE, append(going_on(["drop 8"])[:-1]), [-1]),
    (HERE, append(row(going_on(["drop 8"])) + [256]), [-1]),
    (HERE, append(going_on(["drop 8"], cells=DOCUMENTS[4])), [-8]),
    (HERE, append(going_on(["drop 8"], ['make 19 0 ""'])), [-2]),
    (FULL, append(going_on(['make 20 0 ""', "drop 1"], cells=[(1, 0, "a")])), [-4]),
    (HERE, at(-1), [-5]),
    (HERE, at(6), [-5]),
    (HERE, same([]), [0]),
    (HERE, same(NEW), [0]),
]


class Refused(unittest.TestCase):
    def test_write_state_and_whole_ahead_and_behind_are_alike(self):
        for ahead, call, answer in REFUSED:
            told = ask(*ahead, WRITE, STATE, WHOLE, call, WRITE, STATE, WHOLE)[len(ahead):]
            self.assertEqual(told[3], answer, call)
            self.assertEqual(told[:3], told[4:], call)

    def test_the_documents_at_all_positions_are_as_they_were(self):
        for ahead, call, answer in REFUSED:
            places = [at(position) for position in range(-1, 7)]
            told = ask(*ahead, *places, call, *places)[len(ahead):]
            self.assertEqual(told[:len(places)], told[len(places) + 1:], call)

    def test_what_comes_behind_answers_as_without_it(self):
        later = [do('make 20 0 "z"'), UNDO, REDO, REDO, to(2), fold(1), do("hide 5 0"), UNDO, REDO, WRITE, STATE, WHOLE]
        for ahead, call, answer in REFUSED:
            self.assertEqual(ask(*ahead, call, *later)[len(ahead) + 1:], ask(*ahead, *later)[len(ahead):], call)

    def test_one_refusal_behind_another(self):
        calls = [call for ahead, call, answer in REFUSED if ahead == HERE]
        self.assertEqual(ask(*HERE, *calls[:38], WRITE)[-1], ask(*HERE, WRITE)[-1])
