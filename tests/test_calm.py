import copy
import itertools
import unittest

from own import own_steps
from scatterbooks import calm
from scatterbooks.books import joined, mirrored
from scatterbooks.calm import at_rest, calm_count, only_calm
from scatterbooks.errors import BadBook, BadCount, BadWord
from values import BAD_BOOKS, BAD_WORDS, FREE, MEET, ODD_VALUES, SORTS, TWELVE, all_words, many_books, short_words

# Twelve rules, each with three different letters on its left side.
TRIPLES = (4, tuple((left, (left[0],) * 3) for left in list(itertools.permutations(range(4), 3))[::2]))

BOOKS = many_books() + [SORTS, MEET, FREE, TRIPLES]

BAD_COUNTS = [61, -1, 62, 10 ** 40, -10 ** 40, True, False, None, "", "5", (), (5,), [], [5], {}, {5: 5}]


class Examples(unittest.TestCase):

    def test_examples(self):
        self.assertEqual([at_rest(SORTS, (0, 0, 1)), at_rest(SORTS, (0, 1, 0)), calm_count(SORTS, 5),
                          calm_count(MEET, 5), only_calm(SORTS, MEET), only_calm(MEET, MEET)],
                         [True, False, 6, 6, (1, 1), None])

    def test_functions_stand_in_the_file(self):
        for function in (at_rest, calm_count, only_calm):
            self.assertEqual(function.__module__, calm.__name__)


class AtRest(unittest.TestCase):

    def test_ordinary(self):
        self.assertIs(at_rest(SORTS, (0, 1, 1)), True)
        self.assertIs(at_rest(SORTS, (1, 1, 0)), False)
        self.assertIs(at_rest(MEET, (1, 0, 0, 1)), False)
        self.assertIs(at_rest(FREE, (0,)), False)

    def test_scattered_left_sides(self):
        book = (3, (((0, 1, 0), (0, 0, 0)),))
        self.assertIs(at_rest(book, (2, 0, 2, 1, 2, 2, 0, 2)), False)
        self.assertIs(at_rest(book, (2, 0, 2, 0, 2, 2, 1, 2)), True)
        self.assertIs(at_rest(book, (1, 0, 0, 2, 2, 1, 1, 2)), True)

    def test_no_letters_and_no_rules(self):
        for book in BOOKS:
            self.assertIs(at_rest(book, ()), True)
        for many in (1, 2, 3, 4):
            self.assertIs(at_rest((many, ()), (many - 1,) * 60), True)

    def test_many_books_and_words(self):
        seen = {True: 0, False: 0}
        for many, rules in BOOKS[::2]:
            for word in short_words(many, 7 if many == 2 else 4)[::7]:
                right = not own_steps(rules, word)
                self.assertIs(at_rest((many, rules), word), right)
                seen[right] += 1
        self.assertGreater(min(seen.values()), 1000)

    def test_words_of_sixty_letters(self):
        self.assertIs(at_rest(SORTS, (0,) * 30 + (1,) * 30), True)
        self.assertIs(at_rest(SORTS, (0,) * 29 + (1,) * 30 + (0,)), False)
        self.assertIs(at_rest(MEET, (0,) * 59 + (1,)), True)
        self.assertIs(at_rest(MEET, (1,) + (0,) * 58 + (1,)), False)
        self.assertIs(at_rest(TRIPLES, (0, 1, 0, 1, 3) * 12), False)

    def test_words_of_sixty_one_letters(self):
        for book in (SORTS, FREE, (2, ()), (1, ())):
            for many in (61, 62, 100):
                with self.assertRaises(BadWord) as caught:
                    at_rest(book, (0,) * many)
                self.assertIsNone(caught.exception.index)
        with self.assertRaises(BadWord) as caught:
            at_rest(SORTS, (7,) * 61)
        self.assertIsNone(caught.exception.index)

    def test_bad_words(self):
        for word, index in BAD_WORDS:
            with self.assertRaises(BadWord) as caught:
                at_rest(SORTS, word)
            self.assertEqual(caught.exception.index, index, word)

    def test_last_letter_of_sixty(self):
        for item in (2, -1, True, None, "0", (0,)):
            with self.assertRaises(BadWord) as caught:
                at_rest(SORTS, (0,) * 59 + (item,))
            self.assertEqual(caught.exception.index, 59)


class CalmCount(unittest.TestCase):

    def test_ordinary(self):
        self.assertEqual([calm_count(SORTS, long) for long in range(6)], [1, 2, 3, 4, 5, 6])
        self.assertEqual([calm_count(FREE, long) for long in range(4)], [1, 0, 0, 0])
        self.assertEqual(calm_count((2, (((0, 0, 0), (1, 1, 1)),)), 10), 1 + 10 + 45)

    def test_no_rules(self):
        for many in (1, 2, 3, 4):
            for long in (0, 1, 2, 59, 60):
                self.assertEqual(calm_count((many, ()), long), many ** long)

    def test_many_books(self):
        for many, rules in BOOKS[::2]:
            for long in range(7 if many == 2 else 5):
                counted = sum(not own_steps(rules, word) for word in all_words(many, long))
                self.assertEqual(calm_count((many, rules), long), counted)

    def test_what_at_rest_tells(self):
        for book in BOOKS[::5]:
            for long in range(5):
                self.assertEqual(calm_count(book, long), sum(at_rest(book, word) for word in all_words(book[0], long)))

    def test_sixty_letters(self):
        self.assertEqual(calm_count(SORTS, 60), 61)
        self.assertEqual(calm_count(MEET, 60), 61)
        self.assertEqual(calm_count(FREE, 60), 0)
        self.assertEqual(calm_count((3, (((2,), (0,)),)), 60), 2 ** 60)
        self.assertEqual(calm_count((3, (((2, 2), (0, 0)),)), 60), 2 ** 60 + 60 * 2 ** 59)
        self.assertEqual(calm_count((2, (((0, 1, 0), (0, 0, 0)),)), 60), 1 + 60 * 61 // 2)

    def test_twelve_rules(self):
        self.assertEqual(len(TRIPLES[1]), 12)
        counted = sum(not own_steps(TRIPLES[1], word) for word in all_words(4, 6))
        self.assertEqual(calm_count(TRIPLES, 6), counted)
        self.assertGreater(calm_count(TRIPLES, 60), calm_count(TRIPLES, 59))
        self.assertEqual(calm_count((4, TWELVE), 60), 0)

    def test_mirrored_books_have_as_many(self):
        for book in BOOKS[::4]:
            for long in (0, 1, 5, 17, 60):
                self.assertEqual(calm_count(mirrored(book), long), calm_count(book, long))

    def test_bad_counts(self):
        for book in (SORTS, FREE, (1, ())):
            for long in BAD_COUNTS:
                with self.assertRaises(BadCount):
                    calm_count(book, long)


class OnlyCalm(unittest.TestCase):

    def own(self, book, other):
        """The answer by the words of point 9."""
        found = [left for left, _ in other[1] if not own_steps(book[1], left)]
        return min(found, key=lambda left: (len(left), left), default=None)

    def test_ordinary(self):
        self.assertEqual(only_calm(SORTS, FREE), (0,))
        self.assertIsNone(only_calm(FREE, SORTS))
        self.assertEqual(only_calm(MEET, SORTS), (1, 0))
        self.assertIsNone(only_calm(SORTS, (2, (((1, 0), (0, 1)), ((1, 1, 0), (0, 1, 1))))))

    def test_shortest_ahead_of_least(self):
        book = (2, (((1, 1, 1), (0, 0, 0)),))
        self.assertEqual(only_calm(book, (2, (((0, 0, 0), (1, 1, 1)), ((0, 1), (1, 1)), ((1,), (0,))))), (1,))
        self.assertEqual(only_calm(book, (2, (((0, 0, 1), (1, 1, 1)), ((0, 1), (1, 1)), ((1, 0), (0, 1))))), (0, 1))
        self.assertEqual(only_calm(book, (2, (((0, 0, 1), (1, 1, 1)), ((0, 1, 0), (1, 1, 1))))), (0, 0, 1))

    def test_no_rules(self):
        for many in (1, 2, 3, 4):
            self.assertIsNone(only_calm((many, ()), (5 - many, ())))
            self.assertIsNone(only_calm(SORTS, (many, ())))
            self.assertEqual(only_calm((many, ()), SORTS), (1, 0))

    def test_other_numbers_of_letters(self):
        other = (4, (((2, 1, 0), (0, 0, 0)), ((3, 3), (0, 0))))
        self.assertEqual(only_calm(SORTS, other), (3, 3))
        self.assertIsNone(only_calm(SORTS, (4, (((2, 1, 0), (0, 0, 0)),))))
        self.assertEqual(only_calm((1, ()), other), (3, 3))
        self.assertEqual(only_calm(other, SORTS), (1, 0))
        self.assertIsNone(only_calm(other, (3, (((2, 1, 0), (0, 0, 0)),))))

    def test_many_books(self):
        seen = {True: 0, False: 0}
        for book in BOOKS[::5]:
            for other in BOOKS[::9]:
                right = self.own(book, other)
                self.assertEqual(only_calm(book, other), right)
                seen[right is None] += 1
        self.assertGreater(min(seen.values()), 200)

    def test_none_just_if_all_calm_words_are_calm(self):
        pairs = list(itertools.product(BOOKS[::11], BOOKS[::13]))
        for book, other in pairs[::3]:
            many = max(book[0], other[0])
            words = short_words(many, 4 if many < 4 else 3)
            kept = all(not own_steps(other[1], word) for word in words if not own_steps(book[1], word))
            self.assertIs(only_calm(book, other) is None, kept)

    def test_same_and_joined_books(self):
        for book in BOOKS[::3]:
            self.assertIsNone(only_calm(book, book))
            if len(book[1]) < 12:
                self.assertIsNone(only_calm(joined(book, SORTS), SORTS))


class Arguments(unittest.TestCase):

    def test_bad_books(self):
        for book, index in BAD_BOOKS:
            for function, rest in [(at_rest, ((),)), (calm_count, (5,)), (only_calm, (SORTS,))]:
                with self.subTest(function=function.__name__, book=book):
                    with self.assertRaises(BadBook) as caught:
                        function(book, *rest)
                    self.assertEqual(caught.exception.index, index)
            with self.assertRaises(BadBook) as caught:
                only_calm(SORTS, book)
            self.assertEqual(caught.exception.index, index)

    def test_several_errors(self):
        bad = (2, (((0,), (1,)), ((0,), (0,))))
        for word in (None, [0], (7,), (0,) * 61):
            with self.assertRaises(BadBook) as caught:
                at_rest(bad, word)
            self.assertEqual(caught.exception.index, 1)
        for long in BAD_COUNTS:
            with self.assertRaises(BadBook) as caught:
                calm_count(bad, long)
            self.assertEqual(caught.exception.index, 1)
        for other in (None, (7, ()), (2, (((0,), (0,)),))):
            with self.assertRaises(BadBook) as caught:
                only_calm(bad, other)
            self.assertEqual(caught.exception.index, 1)

    def test_no_argument_is_modified(self):
        for value in ODD_VALUES + [[0, 1], [2, []], {0: [1]}, ([0], [1])]:
            kept = copy.deepcopy(value)
            for function, rest in [(at_rest, (SORTS, value)), (calm_count, (SORTS, value)), (only_calm, (SORTS, value)),
                                   (only_calm, (value, SORTS))]:
                try:
                    function(*rest)
                except (BadBook, BadWord, BadCount):
                    pass
                self.assertEqual(value, kept)
