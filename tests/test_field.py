"""Points 2 and 5: is_prime, inverse, rank and weights."""

import itertools
import random
import unittest

from leastjournal.field import inverse, is_prime, rank, weights
from tests.helpers import JUNK, deep_junk, frozen

SMALL_PRIMES = (2, 3, 5, 7, 11, 13, 101)
LARGE_PRIMES = (997, 9973, 10007)


def sieve(limit):
    """Return a list that tells for each integer from 0 to limit whether it is a prime."""
    marks = [True] * (limit + 1)
    marks[0] = marks[1] = False
    for k in range(2, limit + 1):
        if marks[k]:
            for multiple in range(2 * k, limit + 1, k):
                marks[multiple] = False
    return marks


def combined(p, factors, rows, width):
    """Return the sum of the rows with these factors."""
    return tuple(sum(f * row[k] for f, row in zip(factors, rows)) % p for k in range(width))


def span(p, rows, width):
    """Return every combination of the rows."""
    return {combined(p, factors, rows, width) for factors in itertools.product(range(p), repeat=len(rows))}


def random_rows(chance, p, many, width):
    """Return rows of which some are zeros, equal to one before or a combination of those before."""
    rows = []
    for _ in range(many):
        sort = chance.randrange(5)
        if sort == 0:
            rows.append((0,) * width)
        elif sort == 1 and rows:
            rows.append(chance.choice(rows))
        elif sort == 2 and rows:
            rows.append(combined(p, [chance.randrange(p) for _ in rows], rows, width))
        else:
            rows.append(tuple(chance.randrange(p) for _ in range(width)))
    return tuple(rows)


class PrimeTest(unittest.TestCase):
    def test_against_a_sieve(self):
        marks = sieve(10007)
        for value in range(-300, 10600):
            answer = is_prime(value)
            self.assertIs(answer, 0 <= value <= 10007 and marks[value], value)

    def test_edges(self):
        self.assertIs(is_prime(2), True)
        self.assertIs(is_prime(10007), True)
        self.assertIs(is_prime(1), False)
        self.assertIs(is_prime(10009), False)
        self.assertIs(is_prime(10 ** 79), False)
        self.assertIs(is_prime(2 ** 127 - 1), False)
        self.assertIs(is_prime(-(10 ** 79) - 7), False)
        self.assertIs(is_prime(-7), False)
        self.assertIs(is_prime(10 ** 80 - 1), False)

    def test_any_value(self):
        for value in (*JUNK, *deep_junk(), 7.0, b"7"):
            before = frozen(value)
            self.assertIs(is_prime(value), False, before)
            self.assertEqual(frozen(value), before)

    def test_by_name(self):
        self.assertIs(is_prime(value=7), True)
        self.assertIs(is_prime(value=9), False)


class InverseTest(unittest.TestCase):
    def check(self, p, a):
        answer = inverse(p, a)
        self.assertIs(type(answer), int)
        self.assertIn(answer, range(p))
        self.assertEqual(answer * a % p, 1, (p, a))

    def test_every_element_of_small_primes(self):
        for p in SMALL_PRIMES:
            for a in range(1, p):
                self.check(p, a)

    def test_elements_of_large_primes(self):
        for p in LARGE_PRIMES:
            for a in {1, 2, 3, 7, p // 2, p // 3, p - 2, p - 1, *range(5, p, 37)}:
                self.check(p, a)

    def test_examples(self):
        self.assertEqual(inverse(7, 3), 5)
        self.assertEqual(inverse(2, 1), 1)
        self.assertEqual(inverse(p=7, a=3), 5)


class RankTest(unittest.TestCase):
    def test_example(self):
        self.assertEqual(rank(5, ((1, 0), (2, 0), (0, 1))), 2)
        self.assertEqual(rank(p=5, rows=((1, 0), (2, 0), (0, 1))), 2)

    def test_edges(self):
        for p in SMALL_PRIMES + LARGE_PRIMES:
            self.assertEqual(rank(p, ()), 0)
            self.assertEqual(rank(p, ((),)), 0)
            self.assertEqual(rank(p, ((), ())), 0)
            self.assertEqual(rank(p, ((0, 0, 0),) * 3), 0)
            self.assertEqual(rank(p, ((0, 1, p - 1),) * 4), 1)
            self.assertEqual(rank(p, ((0, 0, p - 1), (0, 1, 0), (1, 0, 0))), 3)
            self.assertEqual(rank(p, ((1,), (p - 1,), (0,))), 1)

    def test_depends_on_the_prime(self):
        rows = ((1, 2), (3, 1))
        self.assertEqual(rank(5, rows), 1)
        self.assertEqual(rank(7, rows), 2)

    def test_against_the_size_of_the_span(self):
        chance = random.Random(5)
        for _ in range(150):
            p = chance.choice((2, 3))
            width = chance.randrange(1, 5)
            rows = random_rows(chance, p, chance.randrange(6), width)
            self.assertEqual(p ** rank(p, rows), len(span(p, rows, width)), (p, rows))

    def test_many_rows_and_long_rows(self):
        chance = random.Random(6)
        for p in (2, 101, 10007):
            base = [tuple(int(k == at) for k in range(7)) + (at,) for at in range(7)]
            many = tuple(combined(p, [chance.randrange(p) for _ in base], base, 8) for _ in range(400))
            self.assertEqual(rank(p, many + tuple(base)), 7)
            wide = tuple(tuple((k + at) ** at % p for k in range(2009)) for at in range(1, 2))
            self.assertEqual(rank(p, wide + wide + ((0,) * 2008 + (1,),)), 2)
            unit = tuple((0,) * (60 - at) + (1,) * (at + 1) for at in range(61))
            self.assertEqual(rank(p, unit), 61)
            self.assertEqual(rank(p, unit + many_sums(p, unit)), 61)
            self.assertEqual(rank(p, unit[:40] + many_sums(p, unit[:40])), 40)

    def test_rows_are_not_changed(self):
        rows = ((1, 2, 3), (2, 4, 6), (0, 0, 0), (3, 1, 4))
        before = frozen(rows)
        self.assertEqual(rank(7, rows), rank(7, rows))
        self.assertEqual(frozen(rows), before)


def many_sums(p, rows):
    """Return the sum of each row and the next one."""
    return tuple(tuple((a + b) % p for a, b in zip(one, other)) for one, other in zip(rows, rows[1:]))


class WeightsTest(unittest.TestCase):
    def check(self, p, rows, row):
        """Check an answer by the words of the document; return whether there is one."""
        answer = weights(p, rows, row)
        if answer is None:
            self.assertEqual(rank(p, rows + (row,)), rank(p, rows) + 1, (p, rows, row))
            return False
        self.assertIs(type(answer), tuple)
        self.assertEqual(len(answer), len(rows))
        for weight in answer:
            self.assertIs(type(weight), int)
            self.assertIn(weight, range(p))
        self.assertEqual(combined(p, answer, rows, len(row)), row)
        for at, weight in enumerate(answer):
            if rank(p, rows[: at + 1]) == rank(p, rows[:at]):
                self.assertEqual(weight, 0, (p, rows, row, at))
        return True

    def test_example(self):
        self.assertEqual(weights(5, ((1, 0), (2, 0), (0, 1)), (3, 4)), (3, 0, 4))
        self.assertEqual(weights(p=5, rows=((1, 0), (2, 0), (0, 1)), row=(3, 4)), (3, 0, 4))

    def test_no_rows(self):
        self.assertEqual(weights(5, (), (0, 0, 0)), ())
        self.assertEqual(weights(5, (), (0,)), ())
        self.assertEqual(weights(5, (), ()), ())
        self.assertIsNone(weights(5, (), (0, 1)))
        self.assertIsNone(weights(2, (), (1,)))

    def test_rows_of_zeros_and_of_no_length(self):
        self.assertEqual(weights(5, ((0, 0), (0, 0)), (0, 0)), (0, 0))
        self.assertIsNone(weights(5, ((0, 0), (0, 0)), (0, 1)))
        self.assertEqual(weights(5, ((0, 0), (1, 1), (0, 0)), (3, 3)), (0, 3, 0))
        self.assertEqual(weights(5, ((), ()), ()), (0, 0))

    def test_equal_rows_and_combinations(self):
        self.assertEqual(weights(7, ((1, 2), (1, 2), (2, 4)), (3, 6)), (3, 0, 0))
        self.assertEqual(weights(7, ((1, 2), (0, 1), (1, 3), (6, 0)), (1, 3)), (1, 1, 0, 0))
        self.assertEqual(weights(7, ((2, 4), (1, 2)), (1, 2)), (4, 0))
        self.assertIsNone(weights(7, ((1, 2), (2, 4)), (1, 3)))
        self.assertEqual(weights(7, ((1, 2), (3, 4)), (0, 0)), (0, 0))

    def test_every_row_of_small_fields(self):
        chance = random.Random(7)
        for _ in range(80):
            p = chance.choice((2, 3))
            width = chance.randrange(1, 4)
            rows = random_rows(chance, p, chance.randrange(6), width)
            inside = span(p, rows, width)
            for row in itertools.product(range(p), repeat=width):
                self.assertEqual(self.check(p, rows, row), row in inside)

    def test_rows_of_larger_fields(self):
        chance = random.Random(8)
        for _ in range(150):
            p = chance.choice((5, 7, 101, 10007))
            width = chance.randrange(1, 9)
            rows = random_rows(chance, p, chance.randrange(9), width)
            row = combined(p, [chance.randrange(p) for _ in rows], rows, width)
            self.assertTrue(self.check(p, rows, row))
            self.check(p, rows, tuple(chance.randrange(p) for _ in range(width)))

    def test_many_rows_and_long_rows(self):
        p = 10007
        chance = random.Random(9)
        wide = random_rows(chance, p, 8, 2009)
        row = combined(p, [chance.randrange(p) for _ in wide], wide, 2009)
        self.assertTrue(self.check(p, wide, row))
        outside = row[:-1] + ((row[-1] + 1) % p,)
        self.assertFalse(self.check(p, wide, outside))
        many = random_rows(chance, p, 120, 6)
        self.assertTrue(self.check(p, many, (1, 2, 3, 4, 5, 6)))
        square = tuple((0,) * (60 - at) + (1,) * (at + 1) for at in range(61))
        self.assertTrue(self.check(p, square, tuple(range(61))))

    def test_rows_are_not_changed(self):
        rows = ((1, 2, 3), (2, 4, 6), (0, 0, 0), (3, 1, 4))
        row = (4, 3, 0)
        before = frozen((rows, row))
        self.assertEqual(weights(7, rows, row), weights(7, rows, row))
        self.assertEqual(frozen((rows, row)), before)


if __name__ == "__main__":
    unittest.main()
