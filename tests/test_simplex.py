import itertools
import unittest
from fractions import Fraction

from scatterbooks.simplex import basis_numbers, lowered


def corners(rows, many):
    """All corners of where so many numbers not below 0 keep their sums over rows at most at their last items."""
    edges = [tuple(row) for row in rows] + [tuple(-(at == other) for other in range(many)) + (0,) for at in range(many)]
    for some in itertools.combinations(edges, many):
        point = crossing([[Fraction(item) for item in edge] for edge in some])
        if point and all(sum(item * number for item, number in zip(edge, point)) <= edge[-1] for edge in edges):
            yield point


def crossing(rows):
    """The numbers for which the sums over rows are their last items, None if these are not the only ones."""
    for at in range(len(rows)):
        chosen = next((row for row in rows[at:] if row[at]), None)
        if chosen is None:
            return None
        rows.remove(chosen)
        chosen = [item / chosen[at] for item in chosen]
        rows = [[item - row[at] * other for item, other in zip(row, chosen)] for row in rows]
        rows.insert(at, chosen)
    return [row[-1] for row in rows]


def spaced(many, stride):
    """So many integers from -2 to 3, the same ones in each run."""
    return [(stride * stride + 7 * stride * at + 3 * at * at + at // 2) % 101 % 6 - 2 for at in range(many)]


class Lowered(unittest.TestCase):

    def assert_best(self, rows, gains):
        many, size = len(gains), len(rows)
        table = [list(row[:-1]) + [int(at == other) for other in range(size)] + [row[-1]]
                 for at, row in enumerate(rows)]
        table.append([-gain for gain in gains] + [0] * (size + 1))
        basis = list(range(many, many + size))
        unit = lowered(table, basis, many + size)
        numbers = [Fraction(number, unit) for number in basis_numbers(table, basis, many)]
        self.assertGreaterEqual(min(numbers), 0)
        for row in rows:
            self.assertLessEqual(sum(item * number for item, number in zip(row, numbers)), row[-1])
        value = Fraction(table[-1][-1], unit)
        self.assertEqual(sum(gain * number for gain, number in zip(gains, numbers)), value)
        best = max(sum(gain * number for gain, number in zip(gains, point)) for point in corners(rows, many))
        self.assertEqual(value, best)
        prices = [Fraction(price, unit) for price in table[-1][many:-1]]
        self.assertGreaterEqual(min(prices), 0)
        self.assertEqual(sum(price * row[-1] for price, row in zip(prices, rows)), value)
        for at in range(many):
            self.assertGreaterEqual(sum(price * row[at] for price, row in zip(prices, rows)), gains[at])

    def test_by_hand(self):
        self.assert_best([(1, 2, 4), (3, 1, 6)], [1, 1])
        self.assert_best([(2, 7)], [3])
        self.assert_best([(1, 1, 0), (1, 0, 5), (0, 1, 5)], [1, 2])
        self.assert_best([(1, 1, 1)], [-1, -1])

    def test_many_tables(self):
        for stride in range(1, 250):
            many, size = 2 + stride % 3, 1 + stride % 4
            items = spaced((many + 1) * size + many, stride)
            rows = [tuple(items[at * many:at * many + many]) + (abs(items[many * size + at]),) for at in range(size)]
            self.assert_best(rows + [(1,) * many + (9,)], items[-many:])

    def test_ties(self):
        for stride in range(1, 250):
            many, size = 2 + stride % 3, 2 + stride % 3
            items = spaced(many * size + many, stride)
            rows = [tuple(items[at * many:at * many + many]) + (0,) for at in range(size)]
            self.assert_best(rows + [(1,) * many + (1,)], items[-many:])
