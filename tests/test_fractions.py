import unittest
from fractions import Fraction

from nearenough.fractions import fraction, harmonic, less, minus, over_one_bottom, plus, times

PARTS = sorted({Fraction(top, bottom) for top in range(-7, 8) for bottom in range(1, 8)})
PARTS += [Fraction(10 ** 12, 10 ** 12 - 1), Fraction(-(10 ** 30), 7 ** 20), Fraction(1, 10 ** 24)]


def pair(part):
    return (part.numerator, part.denominator)


class FractionCase(unittest.TestCase):
    def assert_fraction(self, told, top, bottom):
        self.assertIs(type(told), tuple)
        self.assertEqual([type(part) for part in told], [int, int])
        self.assertEqual(told, (top, bottom))


class Made(FractionCase):
    def test_lowest_terms(self):
        self.assert_fraction(fraction(6, 4), 3, 2)
        self.assert_fraction(fraction(3, 2), 3, 2)
        self.assert_fraction(fraction(12, 4), 3, 1)
        self.assert_fraction(fraction(7, 7), 1, 1)
        self.assert_fraction(fraction(5, 1), 5, 1)
        self.assert_fraction(fraction(10 ** 30, 10 ** 28), 100, 1)

    def test_top_below_nought(self):
        self.assert_fraction(fraction(-6, 4), -3, 2)
        self.assert_fraction(fraction(-1, 3), -1, 3)

    def test_bottom_below_nought(self):
        self.assert_fraction(fraction(6, -4), -3, 2)
        self.assert_fraction(fraction(-6, -4), 3, 2)
        self.assert_fraction(fraction(1, -1), -1, 1)
        self.assert_fraction(fraction(-5, -7), 5, 7)

    def test_top_of_nought(self):
        for bottom in (1, 2, 9, 10 ** 12, -1, -2, -9):
            with self.subTest(bottom=bottom):
                self.assert_fraction(fraction(0, bottom), 0, 1)

    def test_all_small_ones(self):
        for top in range(-24, 25):
            for bottom in list(range(-24, 0)) + list(range(1, 25)):
                self.assert_fraction(fraction(top, bottom), *pair(Fraction(top, bottom)))


class Reckoned(FractionCase):
    def test_plus(self):
        self.assert_fraction(plus((1, 2), (1, 3)), 5, 6)
        self.assert_fraction(plus((1, 6), (1, 3)), 1, 2)
        self.assert_fraction(plus((1, 2), (-1, 2)), 0, 1)
        self.assert_fraction(plus((0, 1), (-2, 5)), -2, 5)

    def test_minus(self):
        self.assert_fraction(minus((1, 2), (1, 3)), 1, 6)
        self.assert_fraction(minus((1, 3), (1, 2)), -1, 6)
        self.assert_fraction(minus((5, 6), (1, 3)), 1, 2)
        self.assert_fraction(minus((3, 7), (3, 7)), 0, 1)

    def test_times(self):
        self.assert_fraction(times((2, 3), (3, 4)), 1, 2)
        self.assert_fraction(times((-2, 3), (3, 2)), -1, 1)
        self.assert_fraction(times((-2, 3), (-1, 5)), 2, 15)
        self.assert_fraction(times((0, 1), (-7, 9)), 0, 1)

    def test_less(self):
        self.assertIs(less((1, 3), (1, 2)), True)
        self.assertIs(less((1, 2), (1, 3)), False)
        self.assertIs(less((1, 2), (1, 2)), False)
        self.assertIs(less((-1, 2), (-1, 3)), True)
        self.assertIs(less((-1, 3), (-1, 2)), False)
        self.assertIs(less((0, 1), (1, 10 ** 24)), True)
        self.assertIs(less((10 ** 24 - 1, 10 ** 24), (1, 1)), True)

    def test_all_pairs(self):
        for one in PARTS:
            for other in PARTS:
                self.assert_fraction(plus(pair(one), pair(other)), *pair(one + other))
                self.assert_fraction(minus(pair(one), pair(other)), *pair(one - other))
                self.assert_fraction(times(pair(one), pair(other)), *pair(one * other))
                self.assertIs(less(pair(one), pair(other)), one < other)


class Harmonic(FractionCase):
    def test_first_ones(self):
        told = [(0, 1), (1, 1), (3, 2), (11, 6), (25, 12), (137, 60), (49, 20)]
        for many, (top, bottom) in enumerate(told):
            with self.subTest(many=many):
                self.assert_fraction(harmonic(many), top, bottom)

    def test_each_up_to_two_hundred_and_somewhat_beyond(self):
        whole = Fraction(0)
        for many in range(1, 231):
            whole += Fraction(1, many)
            self.assert_fraction(harmonic(many), *pair(whole))


class OneBottom(FractionCase):
    def test_by_hand(self):
        self.assertEqual(over_one_bottom([(1, 2), (1, 3)]), ([3, 2], 6))
        self.assertEqual(over_one_bottom([(1, 2), (-3, 4), (5, 1)]), ([2, -3, 20], 4))
        self.assertEqual(over_one_bottom([(0, 1), (7, 1)]), ([0, 7], 1))
        self.assertEqual(over_one_bottom([(5, 6), (3, 10), (1, 15)]), ([25, 9, 2], 30))

    def test_of_none(self):
        self.assertEqual(over_one_bottom([]), ([], 1))

    def test_all_parts(self):
        tops, bottom = over_one_bottom([pair(part) for part in PARTS])
        self.assertEqual([Fraction(top, bottom) for top in tops], list(PARTS))


if __name__ == "__main__":
    unittest.main()
