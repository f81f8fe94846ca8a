"""[0.1] and [1.3]: integers, prime numbers and ratios."""

import unittest
from math import gcd

from helpers import Case, NO_INTEGERS, WRONG
from movemarks.base import integers
from movemarks.base.integers import (common_divisor, common_multiple, is_integer, is_prime, is_ratio, lowest,
                                     part_at, prime_factors)
from movemarks.errors import InvalidOperation

LONG = 10 ** 60 - 1
PRIMES = (2, 3, 5, 7, 11, 13, 17, 19, 23, 29, 31, 37, 41, 43, 47, 53, 59, 61, 67, 71, 73, 79, 83, 89, 97)


class Integers(Case):

    def test_constants(self):
        self.assertEqual((integers.MAX_PRIME, integers.MAX_FACTORED, integers.MOST_NUMBERS),
                         (100, 1000000000, 1000))

    def test_is_integer(self):
        for value in (0, 1, -1, LONG, -LONG, int("9" * 60)):
            self.assert_true(is_integer(value))
        for value in NO_INTEGERS:
            self.assert_false(is_integer(value))

    def test_is_prime(self):
        self.assertEqual(tuple(number for number in range(-200, 300) if is_prime(number)), PRIMES)
        self.assert_true(is_prime(97))
        for value in WRONG + (0, 1, 101, 103, 100, 99, -2, -97, 2 ** 61 - 1, (2,), "2"):
            self.assert_false(is_prime(value))

    def test_is_ratio(self):
        for value in ((1, 2), (0, 1), (-3, 2), (5, 1), (LONG, 1), (-LONG, 1), (1, LONG), (-1, 7)):
            self.assert_true(is_ratio(value))
        for value in ((2, 4), (0, 2), (1, 0), (0, 0), (1, -2), (-1, -2), (0, -1), (1,), (), (1, 2, 3), [1, 2],
                      (True, 2), (1, True), (False, 1), (10 ** 60, 1), (1, 10 ** 60), (1, None), "12", 1, ((1, 2),),
                      (-10 ** 60, 1), (6, 3), (10 ** 60 + 1, 10 ** 60)) + WRONG:
            self.assert_false(is_ratio(value))


class Factors(Case):

    def test_prime_factors(self):
        for number in list(range(1, 500)) + [10 ** 9, 999999937, 999950884, 2 ** 29, 3 ** 18, 223092870]:
            factors = prime_factors(number)
            product = 1
            for prime, many in factors.items():
                product *= prime ** many
                self.assertGreater(many, 0)
                self.assertTrue(all(prime % divisor for divisor in range(2, int(prime ** 0.5) + 1)))
            self.assertEqual(product, number)
            self.assertEqual(list(factors), sorted(factors))
        self.assertEqual(prime_factors(1), {})
        self.assertEqual(prime_factors(360), {2: 3, 3: 2, 5: 1})
        self.assertEqual(prime_factors(999999937), {999999937: 1})
        self.assertEqual(prime_factors(10 ** 9), {2: 9, 5: 9})

    def test_prime_factors_of_wrong_numbers(self):
        for number in WRONG + (0, 10 ** 9 + 1, 10 ** 18):
            self.assert_number(number, prime_factors, number)

    def test_prime_factors_are_told_anew(self):
        prime_factors(12)[2] = 5
        self.assertEqual(prime_factors(12), {2: 2, 3: 1})

    def test_part_at(self):
        self.assertEqual([part_at(2, -24), part_at(5, 6), part_at(3, 54), part_at(97, 97), part_at(2, 1)],
                         [8, 1, 27, 97, 1])
        self.assertEqual(part_at(2, 2 ** 190), 2 ** 190)
        self.assertEqual(part_at(7, -7 ** 60), 7 ** 60)
        self.assertEqual(part_at(3, LONG), 27)

    def test_part_at_wrong_numbers(self):
        for prime in WRONG + (0, 1, 4, 99, 101, -2):
            self.assert_number(prime, part_at, prime, 6)
            self.assert_number(prime, part_at, prime, 0)
            self.assert_number(prime, part_at, prime, None)
        for number in NO_INTEGERS + (0,):
            self.assert_number(number, part_at, 2, number)

    def test_lowest(self):
        self.assertEqual([lowest(6, -4), lowest(0, -5), lowest(-6, -4), lowest(7, 1), lowest(-2, 6)],
                         [(-3, 2), (0, 1), (3, 2), (7, 1), (-1, 3)])
        self.assertEqual(lowest(LONG, -LONG), (-1, 1))
        for top in range(-12, 13):
            for bottom in list(range(-12, 0)) + list(range(1, 13)):
                one, other = lowest(top, bottom)
                self.assertEqual(one * bottom, top * other)
                self.assertTrue(other > 0 and gcd(one, other) == 1)

    def test_lowest_of_wrong_numbers(self):
        for top in NO_INTEGERS:
            self.assert_number(top, lowest, top, 2)
            self.assert_number(top, lowest, top, 0)
            self.assert_number(top, lowest, top, "b")
        for bottom in NO_INTEGERS + (0,):
            self.assert_number(bottom, lowest, 3, bottom)


class Common(Case):

    def test_common_divisor(self):
        self.assertEqual([common_divisor((12, -18)), common_divisor(()), common_divisor((0, 0)), common_divisor((0, -7)),
                          common_divisor((-5,)), common_divisor((6, 10, 15)), common_divisor((LONG,) * 1000)],
                         [6, 0, 0, 7, 5, 1, LONG])

    def test_common_multiple(self):
        self.assertEqual([common_multiple((4, 6)), common_multiple(()), common_multiple((7,)), common_multiple((6, 10, 15)),
                          common_multiple((1,) * 1000), common_multiple((LONG, LONG - 1))],
                         [12, 1, 7, 30, 1, LONG * (LONG - 1)])

    def test_wrong_numbers(self):
        wrong = tuple(value for value in WRONG if value != ())
        for call in (common_divisor, common_multiple):
            for numbers in wrong + ([4, 6], (1,) * 1001, (2, None), (1, True), (False,), (10 ** 60, 1), (3, "3"), 6):
                self.assert_raises(InvalidOperation, call, numbers)
        for numbers in ((0,), (4, -6), (-1,), (3, 0, 5)):
            self.assert_raises(InvalidOperation, common_multiple, numbers)
            common_divisor(numbers)


if __name__ == "__main__":
    unittest.main()
