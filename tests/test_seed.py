"""seed (promise 3)."""

import unittest

from tests.helper import NEW, ask, seed, written


class Seed(unittest.TestCase):
    def test_both_ends(self):
        for number in (0, 1, 999999998, 999999999):
            self.assertEqual(ask(seed(number)), [[0]])
            self.assertEqual(written(seed(number)), NEW.replace("seed 0", f"seed {number}"))

    def test_out_of_range(self):
        for number in (-1, 10 ** 9, -10 ** 9, 10 ** 18, -10 ** 18):
            self.assertEqual(ask(seed(number)), [[-7]])
            self.assertEqual(written(seed(42), seed(number)), NEW.replace("seed 0", "seed 42"))

    def test_the_last_one_holds(self):
        self.assertEqual(ask(seed(4), seed(-4), seed(0)), [[0], [-7], [0]])
        self.assertEqual(written(seed(4), seed(5)), NEW.replace("seed 0", "seed 5"))
        self.assertEqual(written(seed(4), seed(0)), NEW)
