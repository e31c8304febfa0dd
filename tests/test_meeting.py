import copy
import unittest

from own import own_clash, own_rests
from scatterbooks import meeting
from scatterbooks.errors import BadBook, NotEnding
from scatterbooks.meeting import clash, has_one_rest
from scatterbooks.towers import ends
from values import BAD_BOOKS, FREE, MEET, ODD_VALUES, SORTS, TWELVE, every_rule, many_books, short_words

# Books whose shortest word with two rests has one letter less than two left sides, with their clashes.
AT_THE_BOUND = [
    ((2, (((0, 0, 0), (0, 1, 0)), ((1, 1, 0), (1, 1, 1)))), ((0, 0, 0, 0, 0), (0, 0, 1, 1, 1), (0, 1, 0, 1, 1))),
    ((3, (((0, 0, 1), (0, 0, 0)), ((1, 2, 0), (2, 2, 0)))), ((0, 0, 1, 2, 0), (0, 0, 0, 2, 0), (0, 0, 2, 2, 0))),
    ((4, (((0, 3, 1), (1, 3, 1)), ((3, 3, 0), (3, 1, 0)))), ((3, 0, 3, 0, 1), (3, 0, 1, 0, 1), (3, 1, 1, 0, 1))),
    ((3, (((0, 0), (0, 1)), ((1, 2), (2, 0)))), ((1, 1, 2), (2, 0, 1), (2, 1, 0))),
    ((3, (((0, 0), (0, 2)), ((1, 0), (0, 0)))), ((0, 1, 0), (0, 1, 2), (0, 2, 2))),
    ((3, (((0,), (1,)), ((0,), (2,)))), ((0,), (1,), (2,))),
    ((4, (((2,), (3,)), ((2,), (1,)))[::-1]), ((2,), (1,), (3,))),
]

# Twelve rules with one rest for each word, and twelve without.
MEETING = (4, tuple(rule for rule in every_rule(4, (1, 2)) if rule[1] in ((0,), (0, 0)))[:12])
PARTING = (4, tuple(rule for rule in every_rule(4, (2,)) if rule[0][0] > rule[1][0])[::5][:12])

ENDING = [book for book in many_books() if ends(book)]


class Examples(unittest.TestCase):

    def test_examples(self):
        self.assertEqual([has_one_rest(SORTS), clash(SORTS), has_one_rest(MEET), clash(MEET)],
                         [True, None, False, ((1, 1), (0, 1), (1, 0))])

    def test_functions_stand_in_the_file(self):
        for function in (clash, has_one_rest):
            self.assertEqual(function.__module__, meeting.__name__)


class Judged(unittest.TestCase):

    def assert_clash(self, book, expected):
        self.assertEqual(clash(book), expected, book)
        self.assertIs(type(clash(book)), type(expected))
        self.assertIs(has_one_rest(book), expected is None, book)

    def test_ordinary(self):
        self.assert_clash((3, (((1, 0), (0, 1)), ((2, 0), (0, 2)), ((2, 1), (1, 2)))), None)
        self.assert_clash((2, (((0, 1), (1, 0)),)), None)
        self.assert_clash((3, (((0, 1), (2, 2)), ((1, 0), (2, 1)))), ((0, 0, 1), (0, 2, 2), (2, 0, 2)))

    def test_runs_that_part_and_meet(self):
        self.assert_clash((4, (((0,), (1,)), ((0,), (2,)), ((1,), (3,)), ((2,), (3,)))), None)
        self.assert_clash((4, (((0,), (1,)), ((0,), (2,)), ((1,), (3,)))), ((0,), (2,), (3,)))

    def test_two_least_of_three(self):
        self.assert_clash((4, (((0,), (1,)), ((0,), (2,)), ((0,), (3,)))), ((0,), (1,), (2,)))
        self.assert_clash((4, (((3,), (0,)), ((3,), (1,)), ((3,), (2,)))), ((3,), (0,), (1,)))

    def test_least_of_the_shortest(self):
        self.assert_clash((4, (((0, 0), (0, 1)), ((0, 0), (1, 0)), ((3,), (1,)), ((3,), (2,)))), ((3,), (1,), (2,)))
        self.assert_clash((4, (((2,), (0,)), ((2,), (1,)), ((3,), (0,)), ((3,), (1,)))), ((2,), (0,), (1,)))

    def test_rests_behind_several_steps(self):
        self.assert_clash((4, (((2,), (1,)), ((3,), (0,)), ((3,), (2,)))), ((3,), (0,), (1,)))

    def test_no_rules(self):
        for many in (1, 2, 3, 4):
            self.assert_clash((many, ()), None)

    def test_at_the_bound(self):
        for book, expected in AT_THE_BOUND:
            self.assertEqual(len(expected[0]), 2 * max(len(left) for left, _ in book[1]) - 1)
            self.assertEqual(own_clash(book), expected)
            self.assert_clash(book, expected)

    def test_twelve_rules(self):
        self.assertEqual((len(MEETING[1]), len(PARTING[1])), (12, 12))
        self.assert_clash(MEETING, None)
        self.assertIsNotNone(own_clash(PARTING))
        self.assert_clash(PARTING, own_clash(PARTING))

    def test_many_books(self):
        some = [book for book in ENDING if book[0] == 2][::4] + [book for book in ENDING if book[0] == 3][::15]
        some += [book for book in ENDING if book[0] == 4][::40]
        for book in some:
            self.assert_clash(book, own_clash(book))

    def test_longer_words_have_one_rest_too(self):
        count = 0
        for many, rules in ENDING[::4]:
            if has_one_rest((many, rules)):
                count += 1
                for word in short_words(many, 7 if many == 2 else 5)[::17]:
                    self.assertEqual(len(own_rests(rules, word)), 1)
        self.assertGreater(count, 30)


class Errors(unittest.TestCase):

    def test_bad_books(self):
        for book, index in BAD_BOOKS:
            for function in (clash, has_one_rest):
                with self.subTest(function=function.__name__, book=book):
                    with self.assertRaises(BadBook) as caught:
                        function(book)
                    self.assertEqual(caught.exception.index, index)

    def test_bad_book_comes_ahead_of_not_ending(self):
        book = (2, FREE[1] + (((1,), (0,)),))
        for function in (clash, has_one_rest):
            with self.assertRaises(BadBook) as caught:
                function(book)
            self.assertEqual(caught.exception.index, 2)

    def test_not_ending(self):
        endless = [FREE, (4, TWELVE), (2, (((0, 1), (1, 0)), ((1, 0), (0, 1)))),
                   (3, (((0,), (1,)), ((0,), (2,)), ((1,), (0,))))]
        endless += [book for book in many_books() if not ends(book)][::40]
        for book in endless:
            for function in (clash, has_one_rest):
                with self.assertRaises(NotEnding):
                    function(book)

    def test_no_argument_is_modified(self):
        for value in ODD_VALUES:
            kept = copy.deepcopy(value)
            for function in (clash, has_one_rest):
                with self.assertRaises(BadBook):
                    function(value)
                self.assertEqual(value, kept)
