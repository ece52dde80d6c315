"""The interface: calls and answers laid into one list, and what holds over the whole program."""

import unittest

from cellfolds.sessions import answers
from tests.helper import (
    DOCUMENTS, EXAMPLE, NEW, REDO, STATE, UNDO, WHOLE, WRITE, append, at, cell_lines, check, do, do_row, fold, read,
    row, same, sample, seed, session, taken_apart, to, told)

CALLS = [read(EXAMPLE), check(EXAMPLE[:-1]), seed(5), seed(-1), do('make 2 1 "\\x00"'), UNDO, WRITE, REDO, REDO,
         do_row([10 ** 18]), read([]), read(row(NEW) + [-1]), do("drop 9"), do('make 9 0 ""')]

GOING_ON = session(*cell_lines(DOCUMENTS[2]), "step", 'make 21 0 "\\n"', "here", "step", "drop 21", seed=9, upto=50)

# All fourteen calls, and what each answers: forty of them.
ALL = [
    (WRITE, [len(NEW), *row(NEW)]), (STATE, [0, 1, 0, 0, 0]), (WHOLE, [0]), (at(0), [0]), (same(NEW), [1]),
    (check(sample(3)), [0]), (same(sample(3)), [0]), (append(sample(3)), [-8]), (read(sample(3)), [0]),
    (same(sample(3)), [1]), (STATE, [3, 20, 3, 2, 2]), (WHOLE, told(DOCUMENTS[3])), (to(5), [0]),
    (WHOLE, told(DOCUMENTS[5])), (REDO, [-6]), (UNDO, [4]), (fold(5), [-5]), (fold(1), [4]),
    (at(4), told(DOCUMENTS[5])), (at(5), [-5]), (at(-1), [-5]), (to(1), [3]),
    (WRITE, [len(sample(2, 1)), *row(sample(2, 1))]), (append(GOING_ON[:-1]), [-1]), (append(GOING_ON), [2]),
    (STATE, [3, 50, 2, 1, 3]), (REDO, [3]), (WHOLE, told(DOCUMENTS[2])), (UNDO, [2]),
    (WHOLE, told([(21, 0, "\n"), *DOCUMENTS[2]])), (do('make 50 21 ""'), [3]), (do('make 50 21 ""'), [-2]),
    (to(4), [-5]), (seed(10 ** 18), [-7]), (seed(1), [0]), (fold(3), [0]), (UNDO, [-6]),
    (STATE, [1, 51, 0, 0, 6]), (read([]), [1, 0]), (same([]), [0]),
]


def laid(calls):
    return [number for call in calls for number in call]


class Interface(unittest.TestCase):
    def test_several_calls_in_one_list(self):
        text = row(session("step", 'make 1 0 "\\"a"', "here", "step", 'make 2 1 "\\x00"', seed=5, upto=3))
        self.assertEqual(answers(laid(CALLS)), [
            1, 0, 2, 1, len(EXAMPLE) - 1, 1, 0, 1, -7, 1, 2, 1, 1, len(text) + 1, len(text), *text, 1, 2, 1, -6,
            1, -1, 2, 1, 0, 2, 4, len(NEW), 1, -3, 1, -2])

    def test_one_call(self):
        self.assertEqual(answers([2]), [len(NEW) + 1, len(NEW)] + row(NEW))
        self.assertEqual(answers([5]), [1, -6])
        self.assertEqual(answers([6]), [1, -6])
        self.assertEqual(answers([3, 7]), [1, 0])
        self.assertEqual(answers([0, 0]), [2, 1, 0])
        self.assertEqual(answers([1, 0]), [2, 1, 0])
        self.assertEqual(answers([4, 0]), [1, -1])
        self.assertEqual(answers([7, 0]), [1, 0])
        self.assertEqual(answers([7, 1]), [1, -5])
        self.assertEqual(answers([8, 0]), [1, 0])
        self.assertEqual(answers([8, 1]), [1, -5])
        self.assertEqual(answers([9, 0]), [1, -1])
        self.assertEqual(answers([9, len(NEW)] + row(NEW)), [1, 0])
        self.assertEqual(answers([10]), [1, 0])
        self.assertEqual(answers([11, 0]), [1, 0])
        self.assertEqual(answers([11, 1]), [1, -5])
        self.assertEqual(answers([12]), [5, 0, 1, 0, 0, 0])
        self.assertEqual(answers([13, 0]), [1, 0])
        self.assertEqual(answers([13, len(NEW)] + row(NEW)), [1, 1])

    def test_all_fourteen_calls_mixed(self):
        calls = [call for call, answer in ALL]
        self.assertEqual({call[0] for call in calls}, set(range(14)))
        self.assertEqual(len(calls), 40)
        for count in range(1, 41):
            told_apart = taken_apart(answers(laid(calls[:count])))
            self.assertEqual(told_apart, [answer for call, answer in ALL[:count]])

    def test_numbers_of_calls_within_arguments(self):
        self.assertEqual(answers([3, 5, 4, 2, 5, 6, 0, 3, 2, 2, 2, 3, 3]), [1, 0, 1, -1, 2, 1, 0, 1, 0])
        self.assertEqual(answers([7, 7, 8, 12, 11, 10, 9, 2, 12, 12, 13, 1, 10, 12]),
                         [1, -5, 1, -5, 1, -5, 1, -1, 1, 0, 5, 0, 1, 0, 0, 0])

    def test_the_list_handed_in_stays(self):
        for calls in (laid(CALLS), laid(call for call, answer in ALL)):
            before = list(calls)
            answers(calls)
            self.assertEqual(calls, before)

    def test_the_list_is_never_changed_for_a_while(self):
        class Watched(list):
            def refuse(self, *given):
                raise AssertionError("the list handed in was changed")

            append = extend = insert = pop = remove = clear = sort = reverse = refuse
            __setitem__ = __delitem__ = __iadd__ = __imul__ = refuse

        for calls in (laid(CALLS), laid(call for call, answer in ALL)):
            self.assertEqual(answers(Watched(calls)), answers(calls))

    def test_the_same_list_answers_the_same_twice(self):
        for calls in (laid(CALLS), laid(call for call, answer in ALL)):
            self.assertEqual(answers(calls), answers(calls))
            self.assertEqual(answers([2]), [len(NEW) + 1, len(NEW)] + row(NEW))
            self.assertEqual(answers([12, 10]), [5, 0, 1, 0, 0, 0, 1, 0])

    def test_forty_calls(self):
        calls = [do('make 1 0 ""')] + 18 * [do("hide 1 1")] + 19 * [UNDO] + [REDO, WRITE]
        given_back = answers(laid(calls))
        counts = [*range(1, 20), *range(18, -1, -1), 1]
        self.assertEqual(given_back[:2 * len(counts)], [number for count in counts for number in (1, count)])

    def test_answers_are_whole_numbers(self):
        for number in answers(laid(CALLS)) + answers(laid(call for call, answer in ALL)):
            self.assertIs(type(number), int)

    def test_a_changed_answer_changes_nothing(self):
        given_back = answers(laid(CALLS))
        kept = list(given_back)
        given_back.clear()
        self.assertEqual(answers(laid(CALLS)), kept)
