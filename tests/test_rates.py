import copy
import itertools
import math
import unittest
from fractions import Fraction

from odd import ENDLESS, GREATER, LINEAR, POLYNOMIAL, changed_integers, holds_true_or_false, odd_items
from own import own_longest
from own_lengths import own_rate_plan, own_rate_weights, own_ratio
from scatterbooks import rates
from scatterbooks.books import mirrored, renamed
from scatterbooks.booktext import read_book
from scatterbooks.errors import BadBook
from scatterbooks.lengths import growth
from scatterbooks.rates import rate, rate_plan, rate_weights, shows_rate_plan, shows_rate_weights
from values import BAD_BOOKS, FREE, ODD_VALUES, SORTS, TWELVE, every_rule, many_books, short_words

FALL = (2, (((1, 0), (0, 0)),))
HALF = (2, (((1, 1), (0, 0)),))

# Books with the rates that they have, by hand.
RATES = [
    ("1:", (0, 1)), ("4:", (0, 1)), ("2: 1>0", (1, 1)), ("2: 10>00", (1, 1)), ("2: 11>00", (1, 2)),
    ("2: 111>000", (1, 3)), ("3: 1>2 2>0", (2, 1)), ("4: 0>1 1>2 2>3", (3, 1)), ("3: 01>22 2>0", (3, 1)),
    ("3: 000>111 11>20", (5, 3)), ("3: 11>22 22>00", (1, 1)), ("3: 1>2 22>00", (3, 2)), ("3: 11>22 222>000", (5, 6)),
    ("3: 111>222 22>00", (5, 6)), ("3: 112>002 22>10", (3, 4)), ("2: 110>000 111>000", (1, 2)), ("3: 12>00", (1, 2)),
    ("3: 111>220 222>000", (5, 9)), ("3: 012>000", (1, 2)), ("3: 0>1 0>2", (1, 1)),
]

BOOKS = many_books()[::2] + LINEAR + POLYNOMIAL + GREATER + ENDLESS + [FALL, HALF]
BOOKS += [read_book(text) for text, _ in RATES]
OTHERS = POLYNOMIAL + GREATER + ENDLESS
RATED = [book for book in BOOKS if growth(book) == "linear"]
LARGE = 10 ** 300


def by_hand(ratio):
    """A ratio of other terms as a pair without a common divisor."""
    found = Fraction(*ratio)
    return (found.numerator, found.denominator)


class Examples(unittest.TestCase):

    def test_examples(self):
        self.assertEqual(
            [rate(FALL), shows_rate_weights(FALL, ((0, 1), (1, 1))),
             shows_rate_plan(FALL, (((1, 1),), ((0, 1), (1, 1)))), rate(HALF),
             shows_rate_weights(HALF, ((0, 1), (1, 2))), rate(SORTS), rate_plan(SORTS)],
            [(1, 1), True, True, (1, 2), True, None, None])

    def test_functions_stand_in_the_file(self):
        for function in (rate, rate_plan, rate_weights, shows_rate_plan, shows_rate_weights):
            self.assertEqual(function.__module__, rates.__name__)


class Rate(unittest.TestCase):

    def test_by_hand(self):
        for text, right in RATES:
            self.assertEqual(rate(read_book(text)), right, text)

    def test_no_rules(self):
        for many in (1, 2, 3, 4):
            self.assertEqual(rate((many, ())), (0, 1))

    def test_weights_and_plan_are_of_one_rate(self):
        seen = set()
        for book in RATED:
            most = rate(book)
            self.assertTrue(own_ratio(most), book)
            self.assertTrue(own_rate_weights(book, most, rate_weights(book)), book)
            self.assertTrue(own_rate_plan(book, most, rate_plan(book)), book)
            seen.add(most)
        self.assertGreater(len(seen), 15)
        self.assertGreater(len([most for most in seen if most[1] > 1]), 8)

    def test_other_growth(self):
        for book in BOOKS:
            self.assertIs(rate(book) is None, growth(book) != "linear")
            self.assertIs(rate_weights(book) is None, growth(book) != "linear")
            self.assertIs(rate_plan(book) is None, growth(book) != "linear")

    def test_runs_make_no_more_steps(self):
        near = 0
        for book in RATED[::7]:
            top, bottom = rate(book)
            for word in short_words(book[0], 6 if book[0] == 2 else 4)[::-3]:
                steps = own_longest(book[1], word)
                self.assertLessEqual(steps * bottom, top * len(word), (book, word))
                near += 2 * steps * bottom > top * len(word)
        self.assertGreater(near, 50)

    def test_long_runs_come_near(self):
        for text, word in [("2: 10>00", (1,) * 7 + (0,)), ("2: 11>00", (1,) * 8), ("3: 1>2 2>0", (1,) * 8),
                           ("3: 01>22 2>0", (0,) + (1,) * 7), ("2: 111>000", (1,) * 8), ("3: 1>2 22>00", (1,) * 8)]:
            book = read_book(text)
            steps = own_longest(book[1], word)
            self.assertLess(Fraction(*rate(book)) * len(word) - steps, Fraction(*rate(book)) + 3)
            self.assertLessEqual(steps, Fraction(*rate(book)) * len(word))

    def test_renamed_and_mirrored_books(self):
        for book in RATED[::5]:
            self.assertEqual(rate(mirrored(book)), rate(book))
            self.assertEqual(rate(renamed(book, tuple(range(book[0]))[::-1])), rate(book))

    def test_fewer_rules_have_no_greater_rate(self):
        for many, rules in RATED[::5]:
            most = Fraction(*rate((many, rules)))
            for at in range(len(rules)):
                self.assertLessEqual(Fraction(*rate((many, rules[:at] + rules[at + 1:]))), most)


class Weights(unittest.TestCase):

    def test_own_sums(self):
        for book in RATED:
            self.assertIs(shows_rate_weights(book, rate_weights(book)), True)
            self.assertIs(shows_rate_weights(book, None), False)

    def test_other_growth(self):
        for book in OTHERS:
            self.assertIs(shows_rate_weights(book, None), True)
            for value in [(), ((0, 1),) * book[0], ((1, 1),) * book[0], 0, False, True, [], "None"]:
                self.assertIs(shows_rate_weights(book, value), False)

    def test_no_rules(self):
        for many in (1, 2, 3, 4):
            self.assertEqual(rate_weights((many, ())), ((0, 1),) * many)
            self.assertIs(shows_rate_weights((many, ()), ((0, 1),) * many), True)
            for value in [None, (), ((0, 1),) * (many - 1), ((0, 1),) * (many + 1), ((0, 1),) * (many - 1) + ((1, 9),),
                          ((0, 2),) * many, ((0, 1),) * (many - 1) + ((-1, 1),), (0,) * many]:
                self.assertIs(shows_rate_weights((many, ()), value), False)

    def test_between_0_and_the_rate(self):
        book = read_book("3: 1>2")
        for value, right in [
                (((0, 1), (1, 1), (0, 1)), True), (((1, 1), (1, 1), (0, 1)), True), (((1, 2), (1, 1), (0, 1)), True),
                (((3, 2), (1, 1), (0, 1)), False), (((-1, 2), (1, 1), (0, 1)), False),
                (((LARGE - 1, LARGE), (1, 1), (0, 1)), True), (((LARGE + 1, LARGE), (1, 1), (0, 1)), False),
                (((1, LARGE), (1, 1), (0, 1)), True), (((0, 1), (2, 1), (1, 1)), False),
                (((0, 1), (1, 1), (-1, 1)), False), (((0, 1), (1, 1), (1, LARGE)), False),
                (((0, 1), (LARGE - 1, LARGE), (0, 1)), False), (((-1, LARGE), (1, 1), (0, 1)), False)]:
            self.assertIs(shows_rate_weights(book, value), right, value)

    def test_each_rule_falls_by_1_at_least(self):
        book = read_book("3: 01>22 2>0")
        for value, right in [
                (((0, 1), (3, 1), (1, 1)), True), (((0, 1), (3, 1), (1, 2)), False), (((0, 1), (3, 1), (3, 2)), False),
                (((1, 2), (3, 1), (3, 2)), False), (((0, 1), (5, 2), (3, 4)), False),
                (((0, 1), (4, 1), (1, 1)), False)]:
            self.assertIs(shows_rate_weights(book, value), right, value)
        book = read_book("4: 1>0 12>02")
        for value, right in [
                (((0, 1), (1, 1), (0, 1), (0, 1)), True), (((0, 1), (1, 1), (1, 1), (2, 7)), True),
                (((0, 1), (1, 1), (1, 1), (9, 7)), False), (((1, 9), (1, 1), (1, 1), (1, 1)), False)]:
            self.assertIs(shows_rate_weights(book, value), right, value)

    def test_ratios(self):
        for pair, right in [((1, 2), True), ((2, 4), False), ((-1, -2), False), ((1, -2), False), ((1, 0), False),
                            ((0, 0), False), ((True, 2), False), ((1, True), False), ((1,), False), ((1, 2, 1), False),
                            ([1, 2], False), (1, False), ("12", False), (None, False), ({1: 2, 2: 1}, False),
                            (("1", "2"), False), ((1, None), False), (((1,), 2), False), ((1, [2]), False)]:
            self.assertIs(shows_rate_weights(HALF, ((0, 1), pair)), right, pair)
        for pair, right in [((0, 1), True), ((0, 2), False), ((0, -1), False), ((0, 0), False), ((False, 1), False),
                            ((0, True), False), (0, False), ((), False), ((0,), False), ((0, LARGE), False)]:
            self.assertIs(shows_rate_weights(HALF, (pair, (1, 2))), right, pair)

    def test_changed_weights(self):
        wrong = right = 0
        for book in RATED[::2]:
            most = rate(book)
            found = rate_weights(book)
            others = [found[:at] + (by_hand((item[0] * 2 + step, item[1] * 2)),) + found[at + 1:]
                      for at, item in enumerate(found) for step in (-1, 1)]
            for value in [*changed_integers(found), *others, found[::-1], (most,) * book[0], ((0, 1),) * book[0]]:
                good = own_rate_weights(book, most, value)
                self.assertIs(shows_rate_weights(book, value), good, (book, value))
                wrong += not good
                right += good
        self.assertGreater(wrong, 1000)
        self.assertGreater(right, 100)

    def test_all_small_weights(self):
        some = [(0, 1), (1, 3), (1, 2), (1, 1), (3, 2), (2, 1), (3, 1), (2, 2), (5, 6)]
        for text in ("3: 1>2 22>00", "3: 01>22 2>0", "3: 11>22 222>000", "3: 12>00"):
            book = read_book(text)
            for value in itertools.product(some, repeat=3):
                self.assertIs(shows_rate_weights(book, value), own_rate_weights(book, rate(book), value))

    def test_odd_values(self):
        for book in (SORTS, FREE, FALL, (4, TWELVE)):
            for value in ODD_VALUES:
                self.assertIs(shows_rate_weights(book, value), value is None and growth(book) != "linear", value)
        for value in odd_items(((0, 1), (1, 1))):
            self.assertIs(shows_rate_weights(FALL, value), own_rate_weights(FALL, (1, 1), value), value)
            if holds_true_or_false(value):
                self.assertIs(shows_rate_weights(FALL, value), False)


class Plans(unittest.TestCase):

    def test_own_sums(self):
        for book in RATED:
            self.assertIs(shows_rate_plan(book, rate_plan(book)), True)
            self.assertIs(shows_rate_plan(book, None), False)

    def test_other_growth(self):
        for book in OTHERS:
            self.assertIs(shows_rate_plan(book, None), True)
            mixture = ((1, 1),) + ((0, 1),) * (book[0] - 1)
            for value in [(), (((0, 1),) * len(book[1]), mixture), (((1, 1),) * len(book[1]), mixture), 0, False, []]:
                self.assertIs(shows_rate_plan(book, value), False)

    def test_no_rules(self):
        for many in (1, 2, 3, 4):
            book = (many, ())
            self.assertTrue(own_rate_plan(book, (0, 1), rate_plan(book)))
            self.assertIs(shows_rate_plan(book, ((), ((1, many),) * many)), True)
            self.assertIs(shows_rate_plan(book, ((), ((1, 1),) + ((0, 1),) * (many - 1))), True)
            for value in [None, (), ((), ()), ((), ((1, many),) * (many + 1)), ((), ((1, many + 1),) * many),
                          (((0, 1),), ((1, many),) * many), ((), ((0, 1),) * many), ((),),
                          ((), ((1, many),) * many, ())]:
                self.assertIs(shows_rate_plan(book, value), False)

    def test_sums(self):
        book = read_book("3: 0>1 0>2")
        mixture = ((1, 1), (0, 1), (0, 1))
        for amounts, right in [
                (((1, 1), (0, 1)), True), (((0, 1), (1, 1)), True), (((1, 2), (1, 2)), True), (((1, 3), (2, 3)), True),
                (((1, 2), (1, 3)), False), (((1, 1), (1, 1)), False), (((2, 1), (-1, 1)), False),
                (((0, 1), (0, 1)), False),
                (((1, LARGE), (LARGE - 1, LARGE)), True), (((1, LARGE), (1, 1)), False), (((1, 1),), False),
                (((1, 1), (0, 1), (0, 1)), False), (((1, 1), (0, 2)), False), (((2, 4), (1, 2)), False)]:
            self.assertIs(shows_rate_plan(book, (amounts, mixture)), right, amounts)
        for mixture, right in [
                (((1, 1), (0, 1), (0, 1)), True), (((1, 2), (1, 2), (0, 1)), False), (((1, 1), (1, 1), (0, 1)), False),
                (((1, 1), (1, 2), (-1, 2)), False), (((1, 1), (0, 1)), False),
                (((1, 1), (0, 1), (0, 1), (0, 1)), False),
                (((0, 1), (1, 1), (0, 1)), False), (((1, 1), (1, LARGE), (0, 1)), False),
                (((LARGE - 1, LARGE), (1, LARGE), (0, 1)), False), (((2, 2), (0, 1), (0, 1)), False)]:
            self.assertIs(shows_rate_plan(book, (((1, 2), (1, 2)), mixture)), right, mixture)

    def test_no_letter_is_used_up_beyond_the_mixture(self):
        book = read_book("3: 01>22 2>0")
        for value, right in [
                ((((1, 1), (2, 1)), ((0, 1), (1, 1), (0, 1))), True),
                ((((1, 1), (2, 1)), ((1, 9), (8, 9), (0, 1))), False),
                ((((2, 1), (1, 1)), ((0, 1), (1, 1), (0, 1))), False),
                ((((0, 1), (3, 1)), ((0, 1), (1, 1), (0, 1))), False),
                ((((1, 1), (2, 1)), ((0, 1), (0, 1), (1, 1))), False)]:
            self.assertIs(shows_rate_plan(book, value), right, value)

    def test_changed_plans(self):
        wrong = right = 0
        for book in RATED[::2]:
            most = rate(book)
            amounts, mixture = rate_plan(book)
            values = [*changed_integers((amounts, mixture)), (amounts[::-1], mixture), (amounts, mixture[::-1]),
                      (mixture, amounts), (amounts, amounts), (amounts,), (amounts, mixture, ()), [amounts, mixture],
                      (list(amounts), mixture), (amounts, list(mixture)), (amounts[:-1], mixture),
                      (amounts, mixture[:-1]), (amounts + ((0, 1),), mixture), (amounts, mixture + ((0, 1),))]
            for value in values:
                good = own_rate_plan(book, most, value)
                self.assertIs(shows_rate_plan(book, value), good, (book, value))
                wrong += not good
                right += good
        self.assertGreater(wrong, 1000)
        self.assertGreater(right, 20)

    def test_odd_values(self):
        for book in (SORTS, FREE, FALL, (4, TWELVE)):
            for value in ODD_VALUES:
                self.assertIs(shows_rate_plan(book, value), value is None and growth(book) != "linear", value)
        for value in odd_items((((1, 1),), ((0, 1), (1, 1)))):
            self.assertIs(shows_rate_plan(FALL, value), own_rate_plan(FALL, (1, 1), value), value)
            if holds_true_or_false(value):
                self.assertIs(shows_rate_plan(FALL, value), False)


class Ratios(unittest.TestCase):

    def test_no_common_divisor_and_a_denominator_above_0(self):
        for book in RATED:
            amounts, mixture = rate_plan(book)
            for item in (rate(book), *rate_weights(book), *amounts, *mixture):
                self.assertIs(type(item), tuple)
                self.assertEqual([type(part) for part in item], [int, int])
                self.assertGreater(item[1], 0)
                self.assertEqual(math.gcd(*item), 1)

    def test_twelve_rules(self):
        falling = [rule for rule in every_rule(4, (3,)) if sorted(rule[0]) > sorted(rule[1]) and rule[0] > rule[1]]
        for stride in range(1, 60):
            book = (4, tuple(falling[stride * 7::stride * 5 + 1][:12]))
            if growth(book) == "linear":
                most = rate(book)
                self.assertTrue(own_rate_weights(book, most, rate_weights(book)))
                self.assertTrue(own_rate_plan(book, most, rate_plan(book)))


class Arguments(unittest.TestCase):

    def test_bad_books(self):
        for book, index in BAD_BOOKS:
            for function in (rate, rate_weights, rate_plan):
                with self.assertRaises(BadBook) as caught:
                    function(book)
                self.assertEqual(caught.exception.index, index, (function, book))
            for function in (shows_rate_weights, shows_rate_plan):
                for value in (None, 7, [], ((0, 1), (1, 1)), (((1, 1),), ((0, 1), (1, 1)))):
                    with self.assertRaises(BadBook) as caught:
                        function(book, value)
                    self.assertEqual(caught.exception.index, index, (function, book))

    def test_no_argument_is_modified(self):
        values = ODD_VALUES + [[[0, 1], [1, 1]], ([0, 1], [1, 1]), [[[1, 1]], [[0, 1], [1, 1]]],
                               ([(1, 1)], [(0, 1), {}])]
        for value in values:
            kept = copy.deepcopy(value)
            for book in (SORTS, FREE, FALL):
                for function in (shows_rate_weights, shows_rate_plan):
                    function(book, value)
                    self.assertEqual(value, kept)
