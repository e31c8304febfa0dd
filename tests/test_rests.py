import copy
import itertools
import unittest

from own import own_rests, own_settled, own_steps
from scatterbooks import rests
from scatterbooks.books import mirrored, renamed
from scatterbooks.errors import BadBook, BadWord, NotEnding, NotOneRest
from scatterbooks.meeting import has_one_rest
from scatterbooks.rests import alike, least_book, rest
from scatterbooks.towers import ends
from values import BAD_BOOKS, BAD_WORDS, FREE, MEET, ODD_VALUES, SORTS, TWELVE, every_rule, many_books, short_words

LONG_SORTS = (2, (((1, 0), (0, 1)), ((1, 0, 0), (0, 0, 1))))
SORTS_THREE = (3, (((1, 0), (0, 1)), ((2, 0), (0, 2)), ((2, 1), (1, 2))))

# Each 0 with two others ahead becomes 1.
KEEPS_TWO = (3, (((0, 0, 0), (0, 0, 1)),))

# Twelve rules, all of which put 0 for other letters.
CLEARING = (4, tuple(rule for rule in every_rule(4, (1, 2)) if rule[1] in ((0,), (0, 0)))[:12])

# A book with long runs; the longest grow more than all powers of the length.
COUNTING = (3, (((0, 1), (2, 0)), ((0, 2), (2, 1)), ((2, 0, 0), (0, 0, 0)), ((2, 1, 0), (0, 0, 0)),
                ((2, 1, 1), (0, 0, 0)), ((2, 1, 2), (0, 0, 0)), ((2, 2, 0), (0, 0, 0)), ((2, 2, 1), (0, 0, 0))))

MEETING = [book for book in many_books() if ends(book) and has_one_rest(book)]
MEETING += [LONG_SORTS, SORTS_THREE, CLEARING, COUNTING]


def own_least_book(book):
    """The least book, by its words in point 8."""
    many, rules = book
    found = []
    for word in short_words(many, 3):
        shorter = [word[:at] + word[at + 1:] for at in range(len(word))]
        if own_steps(rules, word) and not any(own_steps(rules, less) for less in shorter):
            found.append((word, own_settled(rules, word)))
    return (many, tuple(sorted(found)))


def own_alike(book, other):
    """Whether two books are alike, by words that are one letter longer than point 8 asks for."""
    return book[0] == other[0] and all(
        own_settled(book[1], word) == own_settled(other[1], word) for word in short_words(book[0], 4))


class Examples(unittest.TestCase):

    def test_examples(self):
        self.assertEqual([rest(SORTS, (1, 0, 1, 0, 0)), least_book(LONG_SORTS), alike(SORTS, LONG_SORTS)],
                         [(0, 0, 0, 1, 1), SORTS, True])
        with self.assertRaises(NotOneRest):
            least_book(MEET)

    def test_functions_stand_in_the_file(self):
        for function in (alike, least_book, rest):
            self.assertEqual(function.__module__, rests.__name__)


class Rest(unittest.TestCase):

    def test_ordinary(self):
        self.assertEqual(rest(SORTS_THREE, (2, 1, 0, 2, 1, 0)), (0, 0, 1, 1, 2, 2))
        self.assertEqual(rest((2, (((1,), (0,)),)), (1, 0, 1)), (0, 0, 0))
        self.assertEqual(rest((4, ()), (3, 0, 2)), (3, 0, 2))

    def test_word_of_no_letters(self):
        for book in (SORTS, (1, ()), CLEARING):
            self.assertEqual(rest(book, ()), ())

    def test_many_books_and_words(self):
        self.assertGreater(len(MEETING), 150)
        for many, rules in MEETING:
            for word in short_words(many, 6 if many == 2 else 4)[::13]:
                self.assertEqual([rest((many, rules), word)], own_rests(rules, word))

    def test_words_of_twenty_letters(self):
        self.assertEqual(rest(SORTS, (1, 0) * 10), (0,) * 10 + (1,) * 10)
        self.assertEqual(rest(SORTS, (1,) * 10 + (0,) * 10), (0,) * 10 + (1,) * 10)
        self.assertEqual(rest((1, ()), (0,) * 20), (0,) * 20)
        self.assertEqual(rest((4, ()), (0, 1, 2, 3, 3) * 4), (0, 1, 2, 3, 3) * 4)
        for many, rules in MEETING[::6]:
            word = tuple((at * at + at // 3) * 7 // 5 % many for at in range(20))
            found = rest((many, rules), word)
            self.assertEqual(len(found), 20)
            self.assertEqual(found, own_settled(rules, word))

    def test_long_runs(self):
        word = (0, 2, 2, 1, 2, 2, 2, 0, 2, 0, 2, 2, 1, 2, 1, 2, 0, 1, 0, 2)
        found = rest(COUNTING, word)
        self.assertEqual(own_steps(COUNTING[1], found), set())
        self.assertEqual(found, own_settled(COUNTING[1], word))

    def test_words_of_twenty_one_letters(self):
        for word in [(0,) * 21, (0,) * 20 + (2,), (None,) * 21, (0,) * 100]:
            for book in (SORTS, (1, ()), CLEARING):
                with self.assertRaises(BadWord) as caught:
                    rest(book, word)
                self.assertIsNone(caught.exception.index)

    def test_bad_words(self):
        for word, index in BAD_WORDS + [((0,) * 19 + (2,), 19), ((0,) * 12 + (-1, 2), 12)]:
            for book in (SORTS, LONG_SORTS, (2, ())):
                with self.subTest(book=book, word=word):
                    with self.assertRaises(BadWord) as caught:
                        rest(book, word)
                    self.assertEqual(caught.exception.index, index)

    def test_errors_of_the_book_come_ahead_of_bad_word(self):
        for word in [(0,), (7,), None, (0,) * 21]:
            with self.assertRaises(NotEnding):
                rest(FREE, word)
            with self.assertRaises(NotOneRest):
                rest(MEET, word)
            with self.assertRaises(BadBook):
                rest((2, MEET[1] * 2), word)


class Alike(unittest.TestCase):

    def test_alike(self):
        for book, other in [
                (SORTS, SORTS), (SORTS, LONG_SORTS), ((3, ()), (3, ())), (KEEPS_TWO, KEEPS_TWO),
                ((3, (((0,), (1,)), ((1,), (2,)))), (3, (((0,), (2,)), ((1,), (2,))))),
                ((2, (((1,), (0,)),)), (2, (((1,), (0,)), ((1, 1), (0, 1))))),
                ((3, (((0, 0, 0), (0, 0, 1)), ((2,), (1,)))), (3, (((0, 0, 0), (0, 0, 2)), ((2,), (1,))))),
                ((3, (((0, 0, 0), (0, 0, 1)), ((2,), (0,)))), (3, (((0, 0, 0), (0, 0, 1)), ((0, 2), (0, 0)),
                                                                   ((2,), (0,)))))]:
            self.assertTrue(own_alike(book, other))
            self.assertIs(alike(book, other), True)
            self.assertIs(alike(other, book), True)

    def test_unlike(self):
        for book, other in [
                (SORTS, (2, ())), (SORTS, mirrored(SORTS)), (SORTS, renamed(SORTS, (1, 0))), (KEEPS_TWO, (3, ())),
                ((2, (((1,), (0,)),)), (2, (((0,), (1,)),))), (KEEPS_TWO, mirrored(KEEPS_TWO)),
                ((3, (((0, 0, 0), (0, 0, 1)), ((2,), (1,)))), (3, (((0, 0, 0), (0, 0, 1)), ((2,), (0,)))))]:
            self.assertFalse(own_alike(book, other))
            self.assertIs(alike(book, other), False)
            self.assertIs(alike(other, book), False)

    def test_other_numbers_of_letters(self):
        for many, other in itertools.permutations((1, 2, 3, 4), 2):
            self.assertIs(alike((many, ()), (other, ())), False)
        self.assertIs(alike(SORTS, (3, SORTS[1])), False)
        self.assertIs(alike((4, SORTS[1]), (3, SORTS[1])), False)
        self.assertIs(alike((4, SORTS[1]), (4, LONG_SORTS[1])), True)

    def test_books_told_apart_by_words_of_three_letters_alone(self):
        others = [(3, ()), (3, (((0, 0, 0), (0, 0, 2)),)), (3, (((0, 0, 0), (1, 0, 0)),))]
        for other in others:
            self.assertIs(alike(KEEPS_TWO, other), False)
            for word in short_words(3, 2):
                self.assertEqual(rest(KEEPS_TWO, word), rest(other, word))

    def test_many_books(self):
        count = {True: 0, False: 0}
        for many in (2, 3):
            some = [book for book in MEETING if book[0] == many][::3 if many == 2 else 6]
            for book, other in itertools.product(some, repeat=2):
                right = own_alike(book, other)
                self.assertIs(alike(book, other), right)
                count[right] += 1
        self.assertGreater(count[True], 40)
        self.assertGreater(count[False], 300)

    def test_errors_of_the_first_book_come_first(self):
        wrong = [(None, BadBook), ((2, (None,)), BadBook), (FREE, NotEnding), ((4, TWELVE), NotEnding),
                 (MEET, NotOneRest)]
        for (book, error), (other, _) in itertools.product(wrong, repeat=2):
            with self.assertRaises(error):
                alike(book, other)
        for book, error in wrong:
            for good in (SORTS, (1, ())):
                with self.assertRaises(error):
                    alike(book, good)
                with self.assertRaises(error):
                    alike(good, book)


class LeastBook(unittest.TestCase):

    def test_ordinary(self):
        self.assertEqual(least_book((3, (((0,), (1,)), ((1,), (2,))))), (3, (((0,), (2,)), ((1,), (2,)))))
        self.assertEqual(least_book((2, (((1,), (0,)), ((1, 1), (0, 1))))), (2, (((1,), (0,)),)))
        self.assertEqual(least_book(SORTS_THREE), SORTS_THREE)

    def test_no_rules(self):
        for many in (1, 2, 3, 4):
            self.assertEqual(least_book((many, ())), (many, ()))

    def test_twelve_rules(self):
        self.assertEqual(len(CLEARING[1]), 12)
        self.assertEqual(least_book(CLEARING), own_least_book(CLEARING))

    def test_many_books(self):
        for book in MEETING:
            found = least_book(book)
            self.assertEqual(found, own_least_book(book))
            self.assertLessEqual(len(found[1]), len(book[1]))

    def test_alike_and_no_rule_too_many(self):
        for book in MEETING[::3]:
            many, rules = least_book(book)
            self.assertIs(alike(book, (many, rules)), True)
            self.assertEqual(least_book((many, rules)), (many, rules))
            self.assertTrue(own_alike(book, (many, rules)))
            for at in range(len(rules)):
                # The word of the rule that is left out is at rest without it.
                self.assertFalse(own_steps(rules[:at] + rules[at + 1:], rules[at][0]))


class Errors(unittest.TestCase):

    def test_bad_books(self):
        for book, index in BAD_BOOKS:
            for function, given in [(rest, (book, ())), (rest, (book, None)), (least_book, (book,)),
                                    (alike, (book, SORTS)), (alike, (book, None)), (alike, (SORTS, book)),
                                    (alike, ((1, ()), book))]:
                with self.subTest(function=function.__name__, book=book):
                    with self.assertRaises(BadBook) as caught:
                        function(*given)
                    self.assertEqual(caught.exception.index, index)

    def test_not_ending_comes_ahead_of_not_one_rest(self):
        # From (0,) two rests come, and from (2,) a run goes on for ever.
        book = (4, (((0,), (1,)), ((0,), (3,)), ((1,), (3,)), ((2, 2), (2, 3)), ((2, 3), (2, 2))))
        parting = (4, (((0,), (1,)), ((0,), (2,)), ((3, 1), (3, 2)), ((3, 2), (3, 1))))
        for wrong in (book, parting):
            for function, given in [(rest, (wrong, (0,))), (least_book, (wrong,)), (alike, (wrong, SORTS)),
                                    (alike, (SORTS, wrong))]:
                with self.assertRaises(NotEnding):
                    function(*given)

    def test_not_one_rest(self):
        for wrong in [book for book in many_books() if ends(book) and not has_one_rest(book)][::60]:
            for function, given in [(rest, (wrong, (0,))), (rest, (wrong, ())), (least_book, (wrong,)),
                                    (alike, (wrong, wrong)), (alike, (SORTS, wrong))]:
                with self.assertRaises(NotOneRest):
                    function(*given)

    def test_no_argument_is_modified(self):
        for value in ODD_VALUES:
            kept = copy.deepcopy(value)
            for function, given in [(rest, (value, (0,))), (rest, (SORTS, value)), (alike, (value, SORTS)),
                                    (alike, (SORTS, value)), (least_book, (value,))]:
                try:
                    function(*given)
                except (BadBook, BadWord):
                    pass
                self.assertEqual(value, kept)
