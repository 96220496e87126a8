import inspect
import unittest
from fractions import Fraction
from math import gcd

from tiercask import shares
from tiercask.errors import NoNumber
from tiercask.shares import (fraction, is_fraction, is_whole, minus, over, plus, sum_of,
                             times, under)

# 60 figures and more, with and without divisors in common.
LARGE = 10 ** 60 + 7
LARGER = 123456789 ** 9 * 2 ** 40
LARGEST = 3 ** 4000 * 7 ** 300

NO_WHOLES = [True, False, None, "1", "", [1], [], (1,), (1, 2), (), {1: 2}, {}, 1.0, 0.5,
             float("nan"), 1 + 0j, b"1", {1}, object(), int, len, Fraction(1, 2)]

WHOLES = [0, 1, -1, 2, -2, 3, 4, 6, -6, 9, 12, -35, 360, LARGE, -LARGER, LARGER, LARGEST]

FRACTIONS = [(0, 1), (1, 1), (-1, 1), (1, 2), (-1, 2), (2, 3), (-5, 6), (7, 4), (12, 1),
             (1, 360), (LARGE, 3), (-3, LARGE), (LARGER, LARGE), (1, LARGER), (-LARGEST, LARGE)]


def as_python(share):
    return Fraction(share[0], share[1])


def of_python(number):
    return (number.numerator, number.denominator)


class WholeTest(unittest.TestCase):
    def test_wholes(self):
        for number in WHOLES:
            self.assertIs(is_whole(number), True)

    def test_no_wholes(self):
        for thing in NO_WHOLES:
            with self.subTest(thing=thing):
                self.assertIs(is_whole(thing), False)


class IsFractionTest(unittest.TestCase):
    def test_fractions(self):
        for share in FRACTIONS:
            self.assertIs(is_fraction(share), True)

    def test_not_in_lowest_terms(self):
        for thing in [(2, 4), (-2, 4), (0, 2), (3, 3), (6, 3), (0, LARGE), (LARGE * 2, LARGE * 3)]:
            with self.subTest(thing=thing):
                self.assertIs(is_fraction(thing), False)

    def test_bottom_of_0_or_below(self):
        for thing in [(1, 0), (0, 0), (-1, 0), (1, -1), (1, -2), (-1, -2), (0, -1), (1, -LARGE)]:
            with self.subTest(thing=thing):
                self.assertIs(is_fraction(thing), False)

    def test_truths_in_them(self):
        for thing in [(True, 2), (False, 1), (1, True), (True, True), (1, False), (False, True)]:
            with self.subTest(thing=thing):
                self.assertIs(is_fraction(thing), False)

    def test_other_lengths(self):
        for thing in [(), (1,), (1, 2, 3), (1, 1, 1), ((1, 2),), ((1, 2), (1, 3))]:
            with self.subTest(thing=thing):
                self.assertIs(is_fraction(thing), False)

    def test_no_wholes_in_them(self):
        for thing in NO_WHOLES:
            with self.subTest(thing=thing):
                self.assertIs(is_fraction((thing, 1)), False)
                self.assertIs(is_fraction((1, thing)), False)

    def test_other_kinds(self):
        others = [1, 0, [1, 2], [0, 1], "12", "1/2", {1: 2, 3: 4}, {1, 2}, range(1, 3), b"12"]
        for thing in others + [thing for thing in NO_WHOLES if thing != (1, 2)]:
            with self.subTest(thing=thing):
                self.assertIs(is_fraction(thing), False)


class FractionTest(unittest.TestCase):
    def test_told_outright(self):
        for top, bottom, share in [(1, 2, (1, 2)), (2, 4, (1, 2)), (6, 3, (2, 1)), (7, 7, (1, 1)), (12, 18, (2, 3)),
                                   (5, 1, (5, 1)), (-1, 2, (-1, 2)), (1, -2, (-1, 2)), (-1, -2, (1, 2)),
                                   (-6, 4, (-3, 2)), (6, -4, (-3, 2)), (-6, -4, (3, 2)), (3, -6, (-1, 2)),
                                   (0, 1, (0, 1)), (0, 7, (0, 1)), (0, -7, (0, 1)), (0, LARGE, (0, 1)),
                                   (LARGE * 6, LARGE * 4, (3, 2)), (LARGE * 6, LARGE * -4, (-3, 2)),
                                   (LARGE, 1, (LARGE, 1)), (1, -LARGE, (-1, LARGE))]:
            with self.subTest(top=top, bottom=bottom):
                self.assertEqual(fraction(top, bottom), share)

    def test_lowest_terms_of_all_pairs(self):
        for top in WHOLES + list(range(-12, 13)):
            for bottom in WHOLES + list(range(-12, 13)):
                if bottom != 0:
                    share = fraction(top, bottom)
                    self.assertIs(type(share), tuple)
                    self.assertEqual([type(part) for part in share], [int, int])
                    self.assertGreaterEqual(share[1], 1)
                    self.assertEqual(gcd(share[0], share[1]), 1)
                    self.assertEqual(share[0] * bottom, top * share[1])
                    self.assertIs(is_fraction(share), True)

    def test_bottom_of_0(self):
        for top in WHOLES:
            with self.assertRaises(NoNumber):
                fraction(top, 0)

    def test_no_wholes(self):
        for thing in NO_WHOLES:
            for top, bottom in [(thing, 1), (1, thing), (thing, 0), (0, thing), (thing, thing)]:
                with self.subTest(top=top, bottom=bottom):
                    with self.assertRaises(NoNumber):
                        fraction(top, bottom)

    def test_what_is_refused_stays_as_it_was(self):
        some = [1, 2]
        more = {1: [2]}
        with self.assertRaises(NoNumber):
            fraction(some, more)
        self.assertEqual((some, more), ([1, 2], {1: [2]}))


class SumsTest(unittest.TestCase):
    def test_told_outright(self):
        self.assertEqual(plus((1, 2), (1, 3)), (5, 6))
        self.assertEqual(plus((1, 2), (1, 2)), (1, 1))
        self.assertEqual(plus((1, 2), (-1, 2)), (0, 1))
        self.assertEqual(minus((1, 2), (1, 3)), (1, 6))
        self.assertEqual(minus((1, 3), (1, 2)), (-1, 6))
        self.assertEqual(minus((5, 6), (5, 6)), (0, 1))
        self.assertEqual(times((2, 3), (3, 4)), (1, 2))
        self.assertEqual(times((-2, 3), (-3, 2)), (1, 1))
        self.assertEqual(times((0, 1), (-3, 2)), (0, 1))
        self.assertEqual(over((1, 2), (3, 4)), (2, 3))
        self.assertEqual(over((3, 4), (1, 2)), (3, 2))
        self.assertEqual(over((1, 2), (-3, 4)), (-2, 3))
        self.assertEqual(over((-1, 2), (-3, 4)), (2, 3))
        self.assertEqual(over((0, 1), (-3, 4)), (0, 1))

    def test_like_pythons_own(self):
        for one in FRACTIONS:
            for other in FRACTIONS:
                left = as_python(one)
                right = as_python(other)
                self.assertEqual(plus(one, other), of_python(left + right))
                self.assertEqual(minus(one, other), of_python(left - right))
                self.assertEqual(times(one, other), of_python(left * right))
                self.assertIs(under(one, other), left < right)
                if other != (0, 1):
                    self.assertEqual(over(one, other), of_python(left / right))

    def test_over_nothing(self):
        for one in FRACTIONS:
            with self.assertRaises(NoNumber):
                over(one, (0, 1))

    def test_under(self):
        self.assertIs(under((1, 3), (1, 2)), True)
        self.assertIs(under((1, 2), (1, 3)), False)
        self.assertIs(under((1, 2), (1, 2)), False)
        self.assertIs(under((-1, 2), (-1, 3)), True)
        self.assertIs(under((-1, 2), (0, 1)), True)
        self.assertIs(under((0, 1), (0, 1)), False)
        self.assertIs(under((LARGE, LARGE + 1), (LARGE + 1, LARGE + 2)), True)
        self.assertIs(under((LARGE + 1, LARGE + 2), (LARGE, LARGE + 1)), False)

    def test_sum_of(self):
        self.assertEqual(sum_of([]), (0, 1))
        self.assertEqual(sum_of([(-3, 4)]), (-3, 4))
        self.assertEqual(sum_of([(1, 2), (1, 3), (1, 6)]), (1, 1))
        self.assertEqual(sum_of([(1, 2), (-1, 2), (0, 1)]), (0, 1))
        self.assertEqual(sum_of([(1, 7)] * 700), (100, 1))
        self.assertEqual(sum_of(FRACTIONS), of_python(sum([as_python(share) for share in FRACTIONS])))

    def test_sum_of_leaves_its_list(self):
        some = [(1, 2), (1, 3)]
        whole = sum_of(some)
        self.assertEqual(some, [(1, 2), (1, 3)])
        some.append((1, 6))
        self.assertEqual(whole, (5, 6))
        self.assertEqual(sum_of(some), (1, 1))


class InterfaceTest(unittest.TestCase):
    def test_arguments(self):
        for name, arguments in [("is_whole", ["thing"]), ("is_fraction", ["thing"]), ("fraction", ["top", "bottom"]),
                                ("plus", ["one", "other"]), ("minus", ["one", "other"]), ("times", ["one", "other"]),
                                ("over", ["one", "other"]), ("under", ["one", "other"]), ("sum_of", ["some"])]:
            with self.subTest(name=name):
                self.assertEqual(list(inspect.signature(getattr(shares, name)).parameters), arguments)


if __name__ == "__main__":
    unittest.main()
