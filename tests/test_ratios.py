import unittest
from fractions import Fraction

from bores.ratios import less, minus, plus, ratio

GREATEST = 10 ** 60 - 1
NUMBERS = tuple(range(-13, 14)) + (60, -60, 97, 10 ** 30, -10 ** 59, GREATEST, -GREATEST, 2 * (10 ** 59 - 1))
BOTTOMS = tuple([number for number in NUMBERS if number != 0])
NOUGHT = (0, 1)


def as_ratio(fraction):
    return (fraction.numerator, fraction.denominator)


RATIOS = sorted({as_ratio(Fraction(top, bottom)) for top in NUMBERS for bottom in (1, 2, 3, 12, 10 ** 30, GREATEST)})


class Made(unittest.TestCase):
    def test_in_lowest_terms(self):
        for top, bottom, told in (
            (1, 1, (1, 1)),
            (3, 4, (3, 4)),
            (6, 8, (3, 4)),
            (8, 4, (2, 1)),
            (4, 8, (1, 2)),
            (7, 7, (1, 1)),
            (2 * GREATEST, 4 * GREATEST, (1, 2)),
            (10 ** 60, 10 ** 59, (10, 1)),
        ):
            self.assertEqual(ratio(top, bottom), told)

    def test_of_a_negative_bottom(self):
        self.assertEqual(ratio(1, -2), (-1, 2))
        self.assertEqual(ratio(-1, -2), (1, 2))
        self.assertEqual(ratio(6, -4), (-3, 2))
        self.assertEqual(ratio(-6, -4), (3, 2))
        self.assertEqual(ratio(-6, 4), (-3, 2))
        self.assertEqual(ratio(5, -1), (-5, 1))
        self.assertEqual(ratio(-GREATEST, -GREATEST), (1, 1))

    def test_of_nought(self):
        for bottom in BOTTOMS:
            self.assertEqual(ratio(0, bottom), NOUGHT)

    def test_each_of_many(self):
        for top in NUMBERS:
            for bottom in BOTTOMS:
                self.assertEqual(ratio(top, bottom), as_ratio(Fraction(top, bottom)), (top, bottom))

    def test_of_numbers_far_beyond(self):
        great = 3 ** 4000
        self.assertEqual(ratio(great * 14, -great * 21), (-2, 3))
        self.assertEqual(ratio(great, great - 1), (great, great - 1))


class SumsAndDifferences(unittest.TestCase):
    def test_in_lowest_terms(self):
        self.assertEqual(plus((1, 2), (1, 3)), (5, 6))
        self.assertEqual(plus((1, 6), (1, 3)), (1, 2))
        self.assertEqual(plus((1, 2), (1, 2)), (1, 1))
        self.assertEqual(minus((1, 2), (1, 3)), (1, 6))
        self.assertEqual(minus((5, 6), (1, 3)), (1, 2))
        self.assertEqual(minus((3, 2), (1, 2)), (1, 1))

    def test_of_negative_ones(self):
        self.assertEqual(plus((-1, 2), (1, 3)), (-1, 6))
        self.assertEqual(plus((-1, 6), (-1, 3)), (-1, 2))
        self.assertEqual(minus((1, 3), (1, 2)), (-1, 6))
        self.assertEqual(minus((-1, 6), (1, 3)), (-1, 2))
        self.assertEqual(minus((1, 6), (-1, 3)), (1, 2))

    def test_nought(self):
        for one in RATIOS:
            self.assertEqual(plus(one, NOUGHT), one)
            self.assertEqual(plus(NOUGHT, one), one)
            self.assertEqual(minus(one, NOUGHT), one)
            self.assertEqual(minus(one, one), NOUGHT)
            self.assertEqual(plus(one, minus(NOUGHT, one)), NOUGHT)

    def test_each_of_many(self):
        for one in RATIOS[::3]:
            for other in RATIOS:
                both = (one, other)
                self.assertEqual(plus(one, other), as_ratio(Fraction(*one) + Fraction(*other)), both)
                self.assertEqual(minus(one, other), as_ratio(Fraction(*one) - Fraction(*other)), both)

    def test_what_was_told_is_handed_in_again(self):
        told = NOUGHT
        for number in range(1, 61):
            told = plus(told, ratio(1, 10 ** 59 + number))
        for number in range(1, 61):
            told = minus(told, ratio(1, 10 ** 59 + number))
        self.assertEqual(told, NOUGHT)


class Less(unittest.TestCase):
    def test_both_ways_about(self):
        great = (GREATEST - 1, GREATEST)
        for one, other in (
            ((1, 3), (1, 2)),
            ((-1, 2), (-1, 3)),
            ((-1, 2), (1, 3)),
            ((-1, 9), NOUGHT),
            (NOUGHT, (1, 9)),
            ((9, 10), (1, 1)),
            ((2, 1), (5, 2)),
            (great, (1, 1)),
            ((GREATEST - 2, GREATEST - 1), great),
        ):
            self.assertIs(less(one, other), True, (one, other))
            self.assertIs(less(other, one), False, (one, other))

    def test_like_ones(self):
        for one in RATIOS:
            self.assertIs(less(one, tuple(list(one))), False, one)

    def test_each_of_many(self):
        for one in RATIOS[::3]:
            for other in RATIOS:
                self.assertIs(less(one, other), Fraction(*one) < Fraction(*other), (one, other))


class Kinds(unittest.TestCase):
    def test_tuples_of_two_whole_numbers(self):
        for told in (ratio(6, -4), ratio(0, -4), plus((1, 2), (1, 2)), minus((1, 2), (1, 2))):
            self.assertIs(type(told), tuple)
            self.assertEqual([type(number) for number in told], [int, int])

    def test_arguments_by_their_names(self):
        self.assertEqual(ratio(bottom=4, top=2), (1, 2))
        self.assertEqual(plus(other=(1, 3), one=(1, 2)), (5, 6))
        self.assertEqual(minus(other=(1, 3), one=(1, 2)), (1, 6))
        self.assertIs(less(other=(1, 3), one=(1, 2)), False)


if __name__ == "__main__":
    unittest.main()
