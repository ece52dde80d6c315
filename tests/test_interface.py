"""The interface: calls and answers laid into one list, and what holds over the whole program."""

import unittest

from cellfolds.sessions import answers
from tests.helper import EXAMPLE, NEW, REDO, UNDO, WRITE, check, do, do_row, read, row, seed, session

CALLS = [read(EXAMPLE), check(EXAMPLE[:-1]), seed(5), seed(-1), do('make 2 1 "\\x00"'), UNDO, WRITE, REDO, REDO,
         do_row([10 ** 18]), read([]), read(row(NEW) + [-1]), do("drop 9"), do('make 9 0 ""')]


def laid(calls):
    return [number for call in calls for number in call]


class Interface(unittest.TestCase):
    def test_several_calls_in_one_list(self):
        text = row(session("step", 'make 1 0 "\\"a"', "here", "step", 'make 2 1 "\\x00"', seed=5, upto=3))
        self.assertEqual(answers(laid(CALLS)), [
            1, 0, 2, 1, len(EXAMPLE) - 1, 1, 0, 1, -7, 1, 2, 1, 1, len(text) + 1, len(text), *text, 1, 2, 1, -6,
            1, -1, 2, 1, 0, 2, 4, len(NEW), 1, -3, 1, -2])

    def test_one_call(self):
        self.assertEqual(answers([2]), [len(NEW) + 1, len(NEW)] + row(NEW))
        self.assertEqual(answers([5]), [1, -6])
        self.assertEqual(answers([6]), [1, -6])
        self.assertEqual(answers([3, 7]), [1, 0])
        self.assertEqual(answers([0, 0]), [2, 1, 0])
        self.assertEqual(answers([1, 0]), [2, 1, 0])
        self.assertEqual(answers([4, 0]), [1, -1])

    def test_numbers_of_calls_within_arguments(self):
        self.assertEqual(answers([3, 5, 4, 2, 5, 6, 0, 3, 2, 2, 2, 3, 3]), [1, 0, 1, -1, 2, 1, 0, 1, 0])

    def test_the_list_handed_in_stays(self):
        calls = laid(CALLS)
        before = list(calls)
        answers(calls)
        self.assertEqual(calls, before)

    def test_the_list_is_never_changed_for_a_while(self):
        class Watched(list):
            def refuse(self, *given):
                raise AssertionError("the list handed in was changed")

            append = extend = insert = pop = remove = clear = sort = reverse = refuse
            __setitem__ = __delitem__ = __iadd__ = __imul__ = refuse

        self.assertEqual(answers(Watched(laid(CALLS))), answers(laid(CALLS)))

    def test_the_same_list_answers_the_same_twice(self):
        calls = laid(CALLS)
        self.assertEqual(answers(calls), answers(calls))
        self.assertEqual(answers([2]), [len(NEW) + 1, len(NEW)] + row(NEW))

    def test_forty_calls(self):
        calls = [do('make 1 0 ""')] + 18 * [do("hide 1 1")] + 19 * [UNDO] + [REDO, WRITE]
        told = answers(laid(calls))
        counts = [*range(1, 20), *range(18, -1, -1), 1]
        self.assertEqual(told[:2 * len(counts)], [number for count in counts for number in (1, count)])

    def test_answers_are_whole_numbers(self):
        for number in answers(laid(CALLS)):
            self.assertIs(type(number), int)

    def test_a_changed_answer_changes_nothing(self):
        told = answers(laid(CALLS))
        kept = list(told)
        told.clear()
        self.assertEqual(answers(laid(CALLS)), kept)
