import itertools
import unittest

from scatterbooks.cones import sides


def spaced(many, count, stride):
    """So many vectors, spaced out among all with items from -3 to 3, the same ones in each run."""
    found = []
    number = stride
    for _ in range(count):
        number = (number * 5 + stride) % 7 ** many
        found.append([number // 7 ** at % 7 - 3 for at in range(many)])
    return found


class Sides(unittest.TestCase):

    def assert_sides(self, many, vectors):
        weights, numbers = sides(many, vectors)
        self.assertEqual((len(weights), len(numbers)), (many, len(vectors)))
        for at in range(many):
            self.assertEqual(sum(number * vector[at] for number, vector in zip(numbers, vectors)), 0)
        for number, vector in zip(numbers, vectors):
            product = sum(weight * item for weight, item in zip(weights, vector))
            self.assertGreaterEqual(number, 0)
            self.assertGreaterEqual(product, 0)
            self.assertIs(number > 0, product == 0, (vectors, weights, numbers))

    def test_no_vectors(self):
        self.assertEqual(sides(3, []), ([0, 0, 0], []))

    def test_vectors_of_zeros(self):
        self.assert_sides(2, [[0, 0], [0, 0]])
        self.assert_sides(2, [[0, 0], [1, 0]])

    def test_opposite_vectors(self):
        self.assert_sides(2, [[1, -1], [-1, 1]])
        self.assert_sides(2, [[2, -2], [-3, 3], [1, 0]])

    def test_equal_vectors(self):
        self.assert_sides(3, [[1, -1, 0]] * 5)
        self.assert_sides(3, [[1, -1, 0]] * 3 + [[-1, 1, 0]] * 2 + [[0, 1, -1]] * 2)

    def test_all_small_triples(self):
        some = [list(vector) for vector in itertools.product((-1, 0, 2), repeat=2)]
        for vectors in itertools.product(some, repeat=3):
            self.assert_sides(2, list(vectors))

    def test_many_vectors(self):
        for many, count, stride in itertools.product((1, 2, 3, 4, 5), (1, 2, 3, 4, 6, 12, 36), range(1, 30)):
            self.assert_sides(many, spaced(many, count, stride))

    def test_vectors_are_not_modified(self):
        vectors = [[1, -1], [-1, 1], [2, 0]]
        sides(2, vectors)
        self.assertEqual(vectors, [[1, -1], [-1, 1], [2, 0]])
