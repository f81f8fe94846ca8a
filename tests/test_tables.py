"""[1.4] to [1.7]: tables."""

import unittest
from fractions import Fraction
from itertools import combinations
from math import gcd
from random import Random

from helpers import Case, WRONG
from movemarks.base import tables
from movemarks.base.tables import determinant, elementary_divisors, is_table, kernel, rank, table_product
from movemarks.errors import InvalidOperation, InvalidTable

LONG = 10 ** 60 - 1
NO_TABLES = WRONG + ((), ((),), ((), ()), ((1, 2), (3,)), ((1,), (2, 3)), [[1]], ([1, 2],), [(1, 2)], (1, 2), 1,
                     ((True,),), ((1, False),), ((10 ** 60,),), ((1, None),), (("1",),), ((1, 2), None),
                     ((0,),) * 61, ((0,) * 61,), ((0,) * 61,) * 61, ((1, (2,)),))
ONE_CALL = (determinant, rank, kernel, elementary_divisors)


def zeros(rows, columns):
    return ((0,) * columns,) * rows


def unit(size):
    return tuple(tuple(int(row == column) for column in range(size)) for row in range(size))


def some_tables():
    """Tables with few rows and columns, the same ones in each run."""
    chance = Random(11)
    found = [((0,),), ((-3,),), zeros(2, 3), unit(4)]
    for _ in range(300):
        rows, columns, most = chance.randint(1, 4), chance.randint(1, 4), chance.choice((1, 2, 6, 40, 10 ** 20))
        table = [[chance.choice((0, 1, 2, 6)) * chance.randint(-most, most) for _ in range(columns)]
                 for _ in range(rows)]
        if rows > 2 and chance.random() < 0.5:
            table[-1] = [2 * one - 3 * other for one, other in zip(table[0], table[1])]
        found.append(tuple(tuple(row) for row in table))
    return found


def expanded(table):
    """The determinant, by its first row."""
    if not table:
        return 1
    return sum((-1) ** column * table[0][column] * expanded([row[:column] + row[column + 1:] for row in table[1:]])
               for column in range(len(table)))


def plain_rank(table):
    rows = [[Fraction(number) for number in row] for row in table]
    done = 0
    for column in range(len(rows[0])):
        for at in range(done, len(rows)):
            if rows[at][column]:
                rows[at], rows[done] = rows[done], rows[at]
                for below in range(done + 1, len(rows)):
                    part = rows[below][column] / rows[done][column]
                    rows[below] = [number - part * above for number, above in zip(rows[below], rows[done])]
                done += 1
                break
    return done


def divisors_of_minors(table):
    """The elementary divisors as [1.6] tells them."""
    common = [1]
    for size in range(1, min(len(table), len(table[0])) + 1):
        shared = 0
        for rows in combinations(table, size):
            for columns in combinations(range(len(table[0])), size):
                shared = gcd(shared, expanded([tuple(row[column] for column in columns) for row in rows]))
        if shared == 0:
            break
        common.append(shared)
    return tuple(high // low for low, high in zip(common, common[1:]))


class Judged(Case):

    def test_constant(self):
        self.assertEqual(tables.MAX_SIZE, 60)

    def test_is_table(self):
        for table in some_tables() + [zeros(60, 60), zeros(1, 60), zeros(60, 1), ((LONG, -LONG),)]:
            self.assert_true(is_table(table))
        for value in NO_TABLES + (zeros(61, 60), zeros(60, 61), zeros(59, 60) + zeros(1, 59)):
            self.assert_false(is_table(value))

    def test_wrong_tables(self):
        for value in NO_TABLES + (zeros(61, 61), zeros(60, 61)):
            for call in ONE_CALL:
                self.assert_raises(InvalidTable, call, value)
            for other in (((1,),), ((1, 2, 3),), value, None):
                self.assert_raises(InvalidTable, table_product, value, other)
                self.assert_raises(InvalidTable, table_product, other, value)


class Products(Case):

    def test_products(self):
        for one in some_tables()[:60]:
            for other in some_tables()[:60]:
                if len(one[0]) == len(other):
                    self.assertEqual(table_product(one, other), tuple(
                        tuple(sum(row[at] * other[at][column] for at in range(len(other)))
                              for column in range(len(other[0]))) for row in one))
                else:
                    self.assert_raises(InvalidOperation, table_product, one, other)

    def test_great_products(self):
        self.assertEqual(table_product(((LONG,) * 60,), ((LONG,),) * 60), ((60 * LONG * LONG,),))
        self.assertEqual(table_product(unit(60), unit(60)), unit(60))


class Determinants(Case):

    def test_determinants(self):
        for table in some_tables():
            if len(table) == len(table[0]):
                self.assertEqual(determinant(table), expanded(table))
            else:
                self.assert_raises(InvalidOperation, determinant, table)
        self.assertEqual(determinant(((1, 2), (3, 4))), -2)
        self.assertEqual(determinant(((0, 1), (1, 0))), -1)
        self.assert_raises(InvalidOperation, determinant, ((1, 2),))

    def test_great_determinants(self):
        self.assertEqual(determinant(zeros(60, 60)), 0)
        self.assertEqual(determinant(unit(60)[::-1]), 1)
        self.assertEqual(determinant(unit(59)[::-1]), -1)
        great = tuple(tuple(LONG if row == column else int(row > column) for column in range(60)) for row in range(60))
        self.assertEqual(determinant(great), LONG ** 60)


class Kernels(Case):

    def assert_is_kernel(self, table, found):
        """Asks for the echelon of [1.5]: it is in the kernel, and has as many rows as it must have."""
        width = len(table[0])
        self.assertEqual(len(found), width - plain_rank(table))
        leads = []
        for row in found:
            self.assertEqual(len(row), width)
            self.assertTrue(all(sum(one * other for one, other in zip(row, line)) == 0 for line in table))
            shared = 0
            for number in row:
                shared = gcd(shared, number)
            self.assertEqual(shared, 1)
            leads.append(min(at for at in range(width) if row[at]))
        self.assertEqual(leads, sorted(set(leads)))
        for at, lead in enumerate(leads):
            self.assertGreater(found[at][lead], 0)
            self.assertEqual([row[lead] for place, row in enumerate(found) if place != at and row[lead]], [])

    def test_kernels(self):
        for table in some_tables():
            self.assertEqual(rank(table), plain_rank(table))
            self.assertIsInstance(kernel(table), tuple)
            self.assert_is_kernel(table, kernel(table))
        self.assertEqual([rank(((1, 2), (2, 4))), kernel(((1, 2, 3), (4, 5, 6))), kernel(((1, 0), (0, 1)))],
                         [1, ((1, -2, 1),), ()])
        self.assertEqual(kernel(zeros(2, 3)), unit(3))
        self.assertEqual(kernel(((0, 2, 3),)), ((1, 0, 0), (0, 3, -2)))

    def test_great_kernels(self):
        self.assertEqual([rank(zeros(60, 60)), rank(unit(60)), kernel(unit(60)), kernel(zeros(60, 60)) == unit(60)],
                         [0, 60, (), True])
        chance = Random(5)
        low = tuple(tuple(chance.randint(-9, 9) for _ in range(20)) for _ in range(60))
        high = tuple(tuple(chance.randint(-9, 9) for _ in range(60)) for _ in range(20))
        table = table_product(low, high)
        self.assertEqual(rank(table), 20)
        self.assert_is_kernel(table, kernel(table))
        self.assertEqual(kernel(((LONG,) * 60,))[0], (1,) + (0,) * 58 + (-1,))


class Divisors(Case):

    def test_divisors(self):
        for table in some_tables():
            self.assertEqual(elementary_divisors(table), divisors_of_minors(table))
        self.assertEqual([elementary_divisors(((2, 0), (0, 3))), elementary_divisors(((2, 4), (4, 8))),
                          elementary_divisors(((0, 0),)), elementary_divisors(((0, -4), (6, 0)))],
                         [(1, 6), (2,), (), (2, 12)])

    def test_great_divisors(self):
        self.assertEqual(elementary_divisors(zeros(60, 60)), ())
        self.assertEqual(elementary_divisors(unit(60)), (1,) * 60)
        self.assertEqual(elementary_divisors(((LONG,) * 60,) * 60), (LONG,))
        twos = tuple(tuple(number * 2 for number in row) for row in unit(60))
        self.assertEqual(elementary_divisors(twos), (2,) * 60)

    def test_divisors_that_are_mixed(self):
        chance = Random(3)
        chains = [[1] * 40 + [2] * 10 + [6] * 5 + [30] * 4 + [0], [1] * 40 + [2] * 10 + [6] * 5 + [30] * 5, [3] * 60]
        for size in range(1, 9):
            for _ in range(10):
                chain = [1]
                while len(chain) < size:
                    chain.append(chain[-1] * chance.choice((1, 1, 2, 3, 10)))
                chains.append(chain)
        for chain in chains:
            size = len(chain)
            low = tuple(tuple(1 if row == column else chance.randint(-2, 2) * int(row > column) for column in range(size))
                        for row in range(size))
            middle = tuple(tuple(chain[row] if row == column else 0 for column in range(size)) for row in range(size))
            mixed = table_product(table_product(low, middle), tuple(zip(*low)))
            self.assertEqual(elementary_divisors(mixed), tuple(number for number in chain if number))

    def test_divisors_of_a_table_turned_over(self):
        for table in some_tables():
            self.assertEqual(elementary_divisors(tuple(zip(*table))), elementary_divisors(table))


if __name__ == "__main__":
    unittest.main()
