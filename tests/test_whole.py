"""What the points say of one another, over all modules."""

import unittest

from odd import ENDLESS, GREATER, LINEAR, POLYNOMIAL
from own_lengths import own_most_steps, own_slopes
from scatterbooks.books import joined, mirrored, renamed
from scatterbooks.booktext import read_book, write_book
from scatterbooks.calm import at_rest, calm_count, only_calm
from scatterbooks.degrees import degree, few_slopes, ladder
from scatterbooks.errors import BadBook, NotEnding, NotOneRest, TooMany
from scatterbooks.lengths import even_lot, even_weights, growth, mild_tower, swell
from scatterbooks.meeting import clash, has_one_rest
from scatterbooks.rates import rate, rate_plan, rate_weights
from scatterbooks.rests import alike, least_book, rest
from scatterbooks.towers import ends, knot, shows_knot, shows_tower, tower
from scatterbooks.walks import all_come, goes_on, longest, steps, walked_rests
from values import FREE, MEET, SORTS, all_words, many_books, short_words

BOOKS = many_books()[::5] + LINEAR + POLYNOMIAL + GREATER + ENDLESS + [MEET]


def told_runs(books, words_for):
    """Triples of a book, a word, and how many steps a run from it makes at most, where not too many words come."""
    for book in books:
        for word in words_for(book[0]):
            try:
                yield book, word, longest(book, word)
            except TooMany:
                pass


def some_words(many):
    """Some words of at most 5 letters."""
    return short_words(many, 3)[::3] + all_words(many, 5)[::-111]


def long_words(many):
    """Some words of 8 letters."""
    last = many - 1
    return all_words(many, 8)[::-19937] + [(last,) * 4 + (0,) * 4, (0,) * 4 + (last,) * 4, (0,) + (last,) * 7]


class Runs(unittest.TestCase):

    def test_words_of_eight_letters(self):
        for book, word, many in told_runs(LINEAR + POLYNOMIAL, long_words):
            self.assertLessEqual(many, own_most_steps(few_slopes(book), 8), (book, word))
            if growth(book) == "linear":
                top, bottom = rate(book)
                self.assertLessEqual(many * bottom, top * 8, (book, word))

    def test_no_longer_than_the_rate_tells(self):
        books = [book for book in BOOKS if growth(book) == "linear"]
        for book, word, many in told_runs(books[::2], some_words):
            top, bottom = rate(book)
            self.assertLessEqual(many * bottom, top * len(word), (book, word))

    def test_no_longer_than_rate_weights_tell(self):
        books = [book for book in BOOKS if growth(book) == "linear"]
        for book, word, many in told_runs(books[1::2], some_words):
            weights = rate_weights(book)
            unit = 1
            for _, bottom in weights:
                unit *= bottom
            told = sum(weights[letter][0] * unit // weights[letter][1] for letter in word)
            self.assertLessEqual(many * unit, told, (book, word))

    def test_no_longer_than_mild_towers_tell(self):
        books = [book for book in BOOKS if growth(book) in ("linear", "polynomial")]
        for book, word, many in told_runs(books[::2], some_words):
            for value in (mild_tower(book), few_slopes(book)):
                self.assertLessEqual(many, own_most_steps(value, len(word)), (book, word))

    def test_what_mild_towers_tell_is_of_the_degree(self):
        for book in BOOKS:
            power = degree(book)
            if power is not None and book[1]:
                told = [own_most_steps(few_slopes(book), size) for size in (2 ** 40, 2 ** 41)]
                self.assertLessEqual(told[1], told[0] * 2 ** power)
                self.assertGreater(told[1], told[0] * 2 ** (power - 1))

    def test_some_runs_grow_more_than_powers(self):
        self.assertEqual(growth(GREATER[0]), "greater")
        for size in range(3, 7):
            self.assertGreater(longest(GREATER[0], (1,) * size), 2 ** size)

    def test_runs_for_ever(self):
        for book in BOOKS:
            words = short_words(book[0], 3 if book[0] < 4 else 2)
            if any(goes_on(book, word) for word in words[::-1]):
                self.assertEqual(growth(book), "endless")
                self.assertIs(ends(book), False)
        for book, word in [(FREE, (0,)), (ENDLESS[2], (0, 1)), (ENDLESS[3], (2,)), (ENDLESS[4], (0, 0))]:
            self.assertIs(goes_on(book, word), True)
            with self.assertRaises(NotEnding):
                longest(book, word)


class Books(unittest.TestCase):

    def test_just_one_of_each_two_papers(self):
        for book in BOOKS:
            for one, other in [(tower, knot), (mild_tower, swell), (even_weights, even_lot)]:
                self.assertIs(one(book) is None, other(book) is not None, (one, book))

    def test_growth_beside_the_other_points(self):
        for book in BOOKS:
            word = growth(book)
            self.assertIs(word == "endless", not ends(book))
            self.assertIs(word == "endless", knot(book) is not None)
            self.assertIs(word == "linear", even_weights(book) is not None)
            self.assertIs(word == "linear", rate(book) is not None)
            self.assertIs(word == "linear", rate_plan(book) is not None)
            self.assertIs(word in ("linear", "polynomial"), mild_tower(book) is not None)
            self.assertIs(word in ("linear", "polynomial"), degree(book) is not None)
            self.assertIs(word in ("linear", "polynomial"), ladder(book) is not None)

    def test_milder_papers_are_towers(self):
        for book in BOOKS:
            for value in (mild_tower(book), few_slopes(book)):
                if value is not None:
                    self.assertIs(shows_tower(book, value), True)
            if even_weights(book) is not None:
                self.assertIs(shows_tower(book, (("even", even_weights(book)),)), True)
                self.assertEqual(own_slopes(few_slopes(book)), 0)

    def test_knots_are_of_even_lots_and_no_mild_tower(self):
        for book in BOOKS:
            found = knot(book)
            if found is not None:
                self.assertIs(shows_knot(book, found), True)
                self.assertIsNone(mild_tower(book))
                self.assertIsNotNone(even_lot(book))

    def test_changed_books_grow_alike(self):
        for book in BOOKS[::3]:
            for other in (mirrored(book), renamed(book, tuple(range(book[0]))[::-1]), read_book(write_book(book)),
                          joined(book, (4, ()))):
                self.assertEqual(growth(other), growth(book))
                self.assertEqual(rate(other), rate(book))
                self.assertEqual(degree(other), degree(book))

    def test_words_at_rest(self):
        for book in BOOKS[::4]:
            for word in short_words(book[0], 4)[::3]:
                calm = at_rest(book, word)
                self.assertIs(calm, steps(book, word) == ())
                if ends(book) and len(book[1]) < 4:
                    self.assertEqual([come for come in all_come(book, word) if at_rest(book, come)],
                                     walked_rests(book, word))
            self.assertEqual(calm_count(book, 3), sum(at_rest(book, word) for word in all_words(book[0], 3)))

    def test_rests_are_at_rest(self):
        for book in BOOKS:
            if ends(book) and has_one_rest(book):
                least = least_book(book)
                self.assertIsNone(only_calm(book, least))
                self.assertIsNone(only_calm(least, book))
                self.assertIs(alike(book, least), True)
                for long in (0, 1, 7, 60):
                    self.assertEqual(calm_count(book, long), calm_count(least, long))
                for word in all_words(book[0], 5)[::101]:
                    self.assertIs(at_rest(book, rest(book, word)), True)

    def test_clashes_are_at_rest(self):
        for book in BOOKS:
            if ends(book) and clash(book) is not None:
                word, first, second = clash(book)
                self.assertEqual([at_rest(book, come) for come in (word, first, second)], [False, True, True])
                with self.assertRaises(NotOneRest):
                    rest(book, word)


class Answers(unittest.TestCase):

    def test_equal_arguments_have_equal_answers(self):
        for book in BOOKS[::4]:
            for function in (growth, rate, degree, ends):
                self.assertEqual(function(book), function(read_book(write_book(book))))
            self.assertEqual(calm_count(book, 17), calm_count(book, 17))

    def test_returned_lists_are_new(self):
        for function in (all_come, walked_rests):
            found = function(SORTS, (1, 0))
            found.append(None)
            self.assertNotIn(None, function(SORTS, (1, 0)))

    def test_true_and_false_are_no_integers(self):
        for book in [(True, ()), (2, (((True,), (0,)),)), (2, (((1,), (False,)),))]:
            for function in (growth, rate, degree, even_weights, even_lot, mild_tower, swell, rate_weights, rate_plan,
                             few_slopes, ladder, ends, tower, knot):
                with self.assertRaises(BadBook):
                    function(book)
