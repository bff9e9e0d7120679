"""[50] and the interface's section juststeps/ratios.py."""

import unittest
from fractions import Fraction
from random import Random

from juststeps import errors
from juststeps.ratios import below, minus, plus, product, quotient, ratio
from tests.helper import STRANGE

PAIRS = {plus: Fraction.__add__, minus: Fraction.__sub__, product: Fraction.__mul__, quotient: Fraction.__truediv__}
BAD = STRANGE + ((1, 0), (1, -1), (2, 2), (0, 2), (-4, 6), (3, 3), (0, 0), (1, 2, 3), [1, 2], (True, 2), (1, True),
                 (1, "2"), (None, 1), ((1, 2), 1), (1,), "12", 5)


def pair(number):
    return number.numerator, number.denominator


class RatioTest(unittest.TestCase):
    def test_quotients_of_integers(self):
        for top, bottom, found in (
            (1, 2, (1, 2)), (2, 4, (1, 2)), (-2, 4, (-1, 2)), (2, -4, (-1, 2)), (-2, -4, (1, 2)), (0, 5, (0, 1)),
            (0, -5, (0, 1)), (7, 1, (7, 1)), (7, -1, (-7, 1)), (6, 3, (2, 1)), (10 ** 400, 10 ** 398, (100, 1)),
            (10 ** 300, -10 ** 302, (-1, 100)), (3, 3, (1, 1)), (-3, 3, (-1, 1)),
        ):
            self.assertEqual(ratio(top=top, bottom=bottom), found)

    def test_a_bottom_of_nought(self):
        for top in (0, 1, -1, 10 ** 50):
            with self.assertRaises(errors.ZeroBottom):
                ratio(top, 0)
            with self.assertRaises(errors.ZeroBottom):
                quotient(ratio(top, 7), (0, 1))

    def test_beside_fractions(self):
        random = Random(5)
        for most in (3, 30, 10 ** 40):
            for _ in range(400):
                a, b = (Fraction(random.randint(-most, most), random.randint(1, most)) for _ in range(2))
                self.assertEqual(ratio(a.numerator * 6, a.denominator * 6), pair(a))
                for function, wanted in PAIRS.items():
                    if b or function is not quotient:
                        self.assertEqual(function(a=pair(a), b=pair(b)), pair(wanted(a, b)))
                self.assertIs(below(a=pair(a), b=pair(b)), a < b)
                self.assertIs(below(pair(a), pair(a)), False)

    def test_errors(self):
        for thing in BAD:
            for function in (*PAIRS, below):
                for args in ((thing, (1, 2)), ((1, 2), thing), (thing, thing), (thing, (0, 1)), ((0, 1), thing)):
                    with self.assertRaises(errors.BadRatio):
                        function(*args)


if __name__ == "__main__":
    unittest.main()
