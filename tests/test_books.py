import copy
import itertools
import unittest

from scatterbooks import books
from scatterbooks.books import joined, mirrored, renamed
from scatterbooks.errors import BadBook, BadOrder, TooMany
from values import NO_FRAMES, NO_RULES, ODD_VALUES, SORTS, TWELVE, many_books

FIRST = ((0,), (1,))
LAST = ((1, 1, 1), (1, 1, 0))

NO_ORDERS = [
    (), (0,), (0, 0), (1, 1), (0, 1, 2), (0, 1, 1), (0, 2), (1, 2), (-1, 0), (0, -2), (0, 10 ** 40),
    [0, 1], [1, 0], "01", {0: 0, 1: 1}, {0, 1}, None, 0, 1, True, 2,
    (0, True), (False, 1), (False, True), (True, 0), (0, None), (0, "1"), (0, (1,)), (0, [1]), (0, {}), ([0], [1]),
]


class Examples(unittest.TestCase):

    def test_examples(self):
        self.assertEqual(
            [renamed(SORTS, (1, 0)), mirrored(SORTS), joined(SORTS, (3, (((2,), (0,)),)))],
            [(2, (((0, 1), (1, 0)),)), (2, (((0, 1), (1, 0)),)), (3, (((1, 0), (0, 1)), ((2,), (0,))))])

    def test_functions_stand_in_the_file(self):
        for function in (renamed, mirrored, joined):
            self.assertEqual(function.__module__, books.__name__)


class Renamed(unittest.TestCase):

    def test_order_tells_what_stands_for_each_letter(self):
        book = (3, (((0, 1, 2), (2, 2, 0)), ((1,), (0,))))
        self.assertEqual(renamed(book, (1, 2, 0)), (3, (((1, 2, 0), (0, 0, 1)), ((2,), (1,)))))
        self.assertEqual(renamed(book, (2, 0, 1)), (3, (((0,), (2,)), ((2, 0, 1), (1, 1, 2)))))
        self.assertEqual(renamed(book, (0, 1, 2)), book)

    def test_rules_fall_into_another_order(self):
        book = (2, (((0,), (1,)), ((1, 0), (0, 0))))
        self.assertEqual(renamed(book, (1, 0)), (2, (((0, 1), (1, 1)), ((1,), (0,)))))

    def test_same_left_sides_in_another_order(self):
        book = (3, (((0,), (1,)), ((0,), (2,))))
        self.assertEqual(renamed(book, (0, 2, 1)), book)

    def test_one_letter(self):
        self.assertEqual(renamed((1, ()), (0,)), (1, ()))

    def test_four_letters_and_twelve_rules(self):
        for order in itertools.permutations(range(4)):
            self.assertEqual(renamed((4, TWELVE), order), (4, TWELVE))
        book = (4, tuple(((0, 0, 0), (0, 1, k)) for k in range(4)))
        self.assertEqual(renamed(book, (3, 2, 1, 0)), (4, tuple(((3, 3, 3), (3, 2, k)) for k in range(4))))

    def test_no_rules(self):
        for many in (1, 2, 3, 4):
            self.assertEqual(renamed((many, ()), tuple(range(many))), (many, ()))

    def test_many_books_there_and_back(self):
        for many, rules in many_books():
            for order in itertools.permutations(range(many)):
                there = renamed((many, rules), order)
                back = tuple(order.index(letter) for letter in range(many))
                self.assertEqual(there, (many, tuple(sorted(set(there[1])))))
                self.assertEqual(renamed(there, back), (many, rules))

    def test_bad_orders(self):
        for order in NO_ORDERS:
            with self.subTest(order=order), self.assertRaises(BadOrder):
                renamed(SORTS, order)

    def test_bad_orders_of_other_lengths(self):
        for many, order in [(1, ()), (1, (1,)), (1, (True,)), (1, (False,)), (1, (0, 0)), (1, [0]), (3, (0, 1)),
                            (3, (0, 1, 1)), (3, (1, 2, 3)), (4, (0, 1, 2)), (4, (0, 1, 2, 2)), (4, (0, 1, 2, 3, 3))]:
            with self.subTest(many=many, order=order), self.assertRaises(BadOrder):
                renamed((many, ()), order)

    def test_odd_orders(self):
        for order in ODD_VALUES:
            with self.subTest(order=order), self.assertRaises(BadOrder):
                renamed(SORTS, order)

    def test_bad_book_comes_ahead_of_bad_order(self):
        for book, index in [(None, None), ((2, []), None), ((2, (FIRST, FIRST)), 1), ((2, (None,)), 0)]:
            for order in [(1, 0), (0, 0), None, [0, 1]]:
                with self.assertRaises(BadBook) as caught:
                    renamed(book, order)
                self.assertEqual(caught.exception.index, index)


class Mirrored(unittest.TestCase):

    def test_both_sides_backward(self):
        book = (3, (((0, 1, 2), (2, 2, 0)), ((1,), (0,))))
        self.assertEqual(mirrored(book), (3, (((1,), (0,)), ((2, 1, 0), (0, 2, 2)))))

    def test_rules_fall_into_another_order(self):
        book = (2, (((0, 1), (1, 1)), ((1, 0), (0, 0))))
        self.assertEqual(mirrored(book), (2, (((0, 1), (0, 0)), ((1, 0), (1, 1)))))

    def test_same_left_sides_in_another_order(self):
        book = (2, (((0, 0), (0, 1)), ((0, 0), (1, 0)), ((0, 0), (1, 1))))
        self.assertEqual(mirrored(book), book)

    def test_sides_of_one_letter_stay(self):
        self.assertEqual(mirrored((4, TWELVE)), (4, TWELVE))

    def test_no_rules(self):
        for many in (1, 2, 3, 4):
            self.assertEqual(mirrored((many, ())), (many, ()))

    def test_many_books_there_and_back(self):
        for many, rules in many_books():
            there = mirrored((many, rules))
            self.assertEqual(there[0], many)
            self.assertEqual(list(there[1]), sorted((left[::-1], right[::-1]) for left, right in rules))
            self.assertEqual(mirrored(there), (many, rules))


class Joined(unittest.TestCase):

    def test_rules_of_both(self):
        self.assertEqual(joined((2, (LAST,)), (2, (FIRST,))), (2, (FIRST, LAST)))

    def test_same_rule_in_both(self):
        self.assertEqual(joined((2, (FIRST, LAST)), (2, (FIRST,))), (2, (FIRST, LAST)))
        self.assertEqual(joined(SORTS, SORTS), SORTS)

    def test_more_letters(self):
        for many, other in itertools.product((2, 3, 4), repeat=2):
            self.assertEqual(joined((many, (FIRST,)), (other, (LAST,))), (max(many, other), (FIRST, LAST)))
        self.assertEqual(joined((1, ()), (4, ())), (4, ()))
        self.assertEqual(joined((4, ()), (1, ())), (4, ()))

    def test_no_rules(self):
        self.assertEqual(joined((1, ()), (1, ())), (1, ()))
        self.assertEqual(joined((1, ()), SORTS), SORTS)
        self.assertEqual(joined(SORTS, (1, ())), SORTS)

    def test_twelve_rules_in_all(self):
        self.assertEqual(joined((4, TWELVE[:5]), (4, TWELVE[5:])), (4, TWELVE))
        self.assertEqual(joined((4, TWELVE[1::2]), (4, TWELVE[::2])), (4, TWELVE))
        self.assertEqual(joined((4, TWELVE), (4, TWELVE)), (4, TWELVE))
        self.assertEqual(joined((4, TWELVE[:8]), (4, TWELVE[3:])), (4, TWELVE))
        self.assertEqual(joined((4, TWELVE), (1, ())), (4, TWELVE))

    def test_thirteen_rules_in_all(self):
        for book, other in [((4, TWELVE), (2, (LAST,))), ((2, (LAST,)), (4, TWELVE)),
                            ((4, TWELVE[:6]), (4, TWELVE[6:] + (((3, 3), (3, 2)),))),
                            ((4, TWELVE), (4, TWELVE[1:] + (((3, 3), (3, 2)),)))]:
            with self.assertRaises(TooMany) as caught:
                joined(book, other)
            self.assertEqual(caught.exception.most, 12)

    def test_bad_book_comes_ahead_of_too_many(self):
        with self.assertRaises(BadBook) as caught:
            joined((4, TWELVE), (2, (LAST, LAST)))
        self.assertEqual(caught.exception.index, 1)
        with self.assertRaises(BadBook) as caught:
            joined((4, TWELVE[:-1] + (FIRST,)), (2, (LAST,)))
        self.assertEqual(caught.exception.index, 11)

    def test_error_of_the_first_book_comes_first(self):
        with self.assertRaises(BadBook) as caught:
            joined((2, (FIRST, FIRST)), (2, []))
        self.assertEqual(caught.exception.index, 1)
        with self.assertRaises(BadBook) as caught:
            joined((2, []), (2, (FIRST, FIRST)))
        self.assertIsNone(caught.exception.index)


class BadBooks(unittest.TestCase):
    """What every function here says of a value that is no book."""

    def assert_bad(self, book, index):
        calls = [(renamed, (book, (0, 1))), (renamed, (book, None)), (mirrored, (book,)),
                 (joined, (book, SORTS)), (joined, (book, None)), (joined, (SORTS, book))]
        for function, given in calls:
            with self.subTest(function=function.__name__, book=book):
                with self.assertRaises(BadBook) as caught:
                    function(*given)
                self.assertEqual(caught.exception.index, index)
                self.assertIsNot(caught.exception.index, False)

    def test_no_frame(self):
        for book in NO_FRAMES:
            self.assert_bad(book, None)

    def test_odd_values(self):
        for book in ODD_VALUES:
            self.assert_bad(book, None)

    def test_no_rule_as_first_item(self):
        for item in NO_RULES:
            self.assert_bad((2, (item,)), 0)
            self.assert_bad((2, (item, LAST)), 0)
            self.assert_bad((2, (item, item)), 0)

    def test_no_rule_as_later_item(self):
        for item in NO_RULES:
            self.assert_bad((2, (FIRST, item)), 1)
            self.assert_bad((2, (FIRST, LAST, item, item)), 2)

    def test_no_rule_as_twelfth_item(self):
        for item in NO_RULES:
            self.assert_bad((4, TWELVE[:11] + (item,)), 11)

    def test_equal_and_lesser_rules(self):
        self.assert_bad((2, (FIRST, FIRST)), 1)
        self.assert_bad((2, (LAST, FIRST)), 1)
        self.assert_bad((2, (FIRST, LAST, LAST)), 2)
        self.assert_bad((2, (FIRST, LAST, FIRST)), 2)
        self.assert_bad((3, (((0,), (2,)), ((0,), (1,)))), 1)
        self.assert_bad((2, (((0, 0), (0, 1)), FIRST)), 1)
        self.assert_bad((4, TWELVE[:11] + TWELVE[10:11]), 11)

    def test_first_of_several(self):
        self.assert_bad((2, (FIRST, FIRST, None)), 1)
        self.assert_bad((2, (FIRST, None, FIRST)), 1)
        self.assert_bad((2, (None, FIRST, FIRST)), 0)
        self.assert_bad((2, (LAST, FIRST, FIRST)), 1)

    def test_letters_of_one_letter(self):
        self.assert_bad((1, (((0,), (0,)),)), 0)
        self.assert_bad((1, (FIRST,)), 0)

    def test_letters_out_of_range(self):
        for many in (1, 2, 3, 4):
            self.assert_bad((many, (((0,), (many,)),)), 0)
            self.assert_bad((many, (((many,), (0,)),)), 0)
            self.assert_bad((many, (((0, 0, many), (0, 0, 0)),)), 0)

    def test_whole_value_comes_ahead_of_its_items(self):
        self.assert_bad((0, (None,)), None)
        self.assert_bad((2, (None,) * 13), None)
        self.assert_bad((2, (None,) * 12), 0)

    def test_good_books_pass(self):
        for book in many_books():
            self.assertEqual(joined(book, book), book)


class Arguments(unittest.TestCase):

    def test_no_argument_is_modified(self):
        values = ODD_VALUES + NO_FRAMES + [(2, (item,)) for item in NO_RULES] + NO_ORDERS
        for value in values:
            kept = copy.deepcopy(value)
            for function, given in [(mirrored, (value,)), (renamed, (value, (0, 1))), (renamed, (SORTS, value)),
                                    (joined, (value, SORTS)), (joined, (SORTS, value))]:
                with self.subTest(function=function.__name__, value=value):
                    try:
                        function(*given)
                    except (BadBook, BadOrder):
                        pass
                    self.assertEqual(value, kept)
