import copy
import itertools
import unittest

from odd import ENDLESS, GREATER, LINEAR, POLYNOMIAL, changed_integers, holds_true_or_false, odd_items
from own import own_tower
from own_lengths import own_even_lot, own_even_weights, own_mild_tower, own_swell
from scatterbooks import lengths
from scatterbooks.booktext import read_book
from scatterbooks.errors import BadBook
from scatterbooks.lengths import (even_lot, even_weights, growth, mild_tower, shows_even_lot, shows_even_weights,
                                  shows_mild_tower, shows_swell, swell)
from scatterbooks.towers import ends, shows_tower
from values import BAD_BOOKS, FREE, MEET, ODD_VALUES, SORTS, TWELVE, many_books

FALL = (2, (((1, 0), (0, 0)),))
COUNTS = GREATER[0]
SWELL = ((1, 1), ((1,), (1,)), ((2,), (2,)))

# Two rules that exchange the letters 0 and 1 to and fro, and a swell of them.
SWAPS = (2, (((0, 1), (1, 0)), ((1, 0), (0, 1))))
SWAPS_SWELL = ((1, 1), ((2, 1), (2, 1)), ((3, 7), (3, 7)))

# Weights by which three places fall from letter to letter, and whether the sums that go on from 0 are right.
SUMS = [
    ((3, 2, 1, 0), True), ((1, 0, 0, 0), True), ((1, 0, 0, 1), True), ((1, 0, 0, 2), False), ((0, 0, 1, 1), False),
    ((1, 0, 1, 0), True), ((1, 0, 2, 0), False), ((0, 1, 0, 0), False), ((0, 0, 0, -1), True), ((0, 0, 0, 0), False),
    ((0, 0, 0, 1), False),
]

BOOKS = many_books()[::2] + LINEAR + POLYNOMIAL + GREATER + ENDLESS + [FALL, MEET]
LARGE = 10 ** 500


class Examples(unittest.TestCase):

    def test_examples(self):
        self.assertEqual(
            [growth(FALL), shows_even_weights(FALL, (0, 1)), even_lot(FALL), growth(SORTS), even_weights(SORTS),
             shows_even_lot(SORTS, (3,)), shows_mild_tower(SORTS, (("early", (0, 1)),)), swell(SORTS), growth(FREE),
             mild_tower(FREE), shows_swell(FREE, SWELL)],
            ["linear", True, None, "polynomial", None, True, True, None, "endless", None, True])
        self.assertEqual(growth((3, (((1, 1), (2, 1)), ((2, 0), (1, 2)), ((2, 1), (1, 0))))), "greater")

    def test_functions_stand_in_the_file(self):
        for function in (even_lot, even_weights, growth, mild_tower, shows_even_lot, shows_even_weights,
                         shows_mild_tower, shows_swell, swell):
            self.assertEqual(function.__module__, lengths.__name__)


class Growth(unittest.TestCase):

    def test_a_book_of_each(self):
        for books, word in [(LINEAR, "linear"), (POLYNOMIAL, "polynomial"), (GREATER, "greater"), (ENDLESS, "endless")]:
            for book in books:
                self.assertEqual(growth(book), word, book)

    def test_what_the_other_points_say_of_it(self):
        seen = {}
        for book in BOOKS:
            word = growth(book)
            self.assertIs(word == "linear", even_weights(book) is not None)
            self.assertIs(word in ("linear", "polynomial"), mild_tower(book) is not None)
            self.assertIs(word == "endless", not ends(book))
            seen[word] = seen.get(word, 0) + 1
        self.assertEqual(sorted(seen), ["endless", "greater", "linear", "polynomial"])
        self.assertGreater(min(seen.values()), 20)

    def test_fewer_rules_grow_no_more(self):
        order = ["linear", "polynomial", "greater", "endless"]
        for many, rules in BOOKS[::7] + GREATER + POLYNOMIAL:
            word = growth((many, rules))
            for at in range(len(rules)):
                fewer = growth((many, rules[:at] + rules[at + 1:]))
                self.assertLessEqual(order.index(fewer), order.index(word))


class EvenWeights(unittest.TestCase):

    def test_own_sums(self):
        for book in BOOKS:
            found = even_weights(book)
            if found is not None:
                self.assertTrue(own_even_weights(book, found), book)
                self.assertIs(shows_even_weights(book, found), True)
                self.assertIs(shows_even_weights(book, None), False)
            else:
                self.assertIs(shows_even_weights(book, None), True)
                self.assertIs(shows_even_weights(book, (0,) * book[0]), False)

    def test_just_one_of_weights_and_lot(self):
        seen = {True: 0, False: 0}
        for book in BOOKS:
            self.assertIs(even_weights(book) is None, even_lot(book) is not None)
            seen[even_weights(book) is None] += 1
        self.assertGreater(min(seen.values()), 200)

    def test_no_rules(self):
        for many in (1, 2, 3, 4):
            book = (many, ())
            self.assertTrue(own_even_weights(book, even_weights(book)))
            for weights in [(0,) * many, (-1,) * many, (LARGE,) * many]:
                self.assertIs(shows_even_weights(book, weights), True)
            for value in [None, (), (0,) * (many - 1), (0,) * (many + 1), (True,) * many, [0] * many]:
                self.assertIs(shows_even_weights(book, value), False)

    def test_each_rule_falls_in_all(self):
        book = read_book("3: 01>22 2>0")
        for weights, right in [((0, 3, 1), True), ((1, 6, 2), True), ((0, 2, 1), False), ((0, 3, 0), False),
                               ((1, 3, 1), False), ((-7, 0, -3), False), ((-7, 2, -3), True), ((-7, 1, -3), False),
                               ((0, LARGE, 1), True), ((LARGE, LARGE + 3, LARGE + 1), True),
                               ((LARGE, LARGE + 2, LARGE + 1), False), ((0, 1, LARGE), False)]:
            self.assertIs(shows_even_weights(book, weights), right, weights)

    def test_changed_weights(self):
        wrong = 0
        for book in BOOKS[::2]:
            found = even_weights(book)
            if found is not None:
                opposite = tuple(-item for item in found)
                for value in [opposite, found[::-1], (0,) * book[0], *changed_integers(found)]:
                    right = own_even_weights(book, value)
                    self.assertIs(shows_even_weights(book, value), right, (book, value))
                    wrong += not right
                self.assertIs(shows_even_weights(book, opposite), not book[1])
        self.assertGreater(wrong, 300)

    def test_odd_values(self):
        for book in (SORTS, FREE, FALL, COUNTS, (4, TWELVE)):
            for value in ODD_VALUES:
                self.assertIs(shows_even_weights(book, value), value is None and even_weights(book) is None, value)
        for value in [*odd_items((0, 1)), (0, True), (False, True), (False, 1), (0, "1"), (0, None), (0, (1,)),
                      (0, [1]), (0, {}), ("0", "1"), "01", {0: 0, 1: 1}, [0, 1], (0, 1, 0), (1,), (0, 1, None)]:
            self.assertIs(shows_even_weights(FALL, value), own_even_weights(FALL, value), value)
            if holds_true_or_false(value):
                self.assertIs(shows_even_weights(FALL, value), False)


class EvenLots(unittest.TestCase):

    def test_own_sums(self):
        for book in BOOKS:
            found = even_lot(book)
            if found is not None:
                self.assertTrue(own_even_lot(book, found), book)
                self.assertIs(shows_even_lot(book, found), True)
                self.assertIs(shows_even_lot(book, None), False)
            else:
                self.assertIs(shows_even_lot(book, None), True)
                self.assertIs(shows_even_lot(book, (1,) * len(book[1])), False)

    def test_no_rules(self):
        for many in (1, 2, 3, 4):
            self.assertIsNone(even_lot((many, ())))
            self.assertIs(shows_even_lot((many, ()), None), True)
            for value in [(), (0,), (1,), ((),)]:
                self.assertIs(shows_even_lot((many, ()), value), False)

    def test_balanced_for_each_letter(self):
        book = read_book("3: 0>1 1>0 1>2 2>0")
        for lot, right in [((1, 1, 0, 0), True), ((1, 0, 1, 1), True), ((5, 2, 3, 3), True), ((1, 1, 1, 1), False),
                           ((2, 1, 1, 0), False), ((0, 0, 1, 1), False), ((0, 0, 0, 0), False), ((0, 0, 0, 1), False),
                           ((-1, -1, 0, 0), False), ((2, 3, -1, -1), False), ((LARGE, LARGE, 0, 0), True),
                           ((LARGE + 1, 1, LARGE, LARGE), True), ((LARGE, 1, LARGE, LARGE), False)]:
            self.assertIs(shows_even_lot(book, lot), right, lot)
            self.assertIs(own_even_lot(book, lot), right)

    def test_places_count_once_each(self):
        book = read_book("2: 00>11 1>0")
        for lot, right in [((1, 2), True), ((2, 1), False), ((1, 1), False), ((3, 6), True), ((0, 2), False)]:
            self.assertIs(shows_even_lot(book, lot), right)

    def test_changed_lots(self):
        wrong = 0
        for book in BOOKS[::2]:
            found = even_lot(book)
            if found is not None:
                for value in [found[::-1], (0,) * len(found), tuple(3 * item for item in found),
                              tuple(-item for item in found), *changed_integers(found)]:
                    right = own_even_lot(book, value)
                    self.assertIs(shows_even_lot(book, value), right, (book, value))
                    wrong += not right
        self.assertGreater(wrong, 300)

    def test_odd_values(self):
        for book in (SORTS, FREE, FALL, COUNTS, (4, TWELVE)):
            for value in ODD_VALUES:
                right = even_lot(book) is None if value is None else own_even_lot(book, value)
                self.assertIs(shows_even_lot(book, value), right, value)
        for value in [*odd_items((1, 1)), (1, True), (True, True), (True, 1), (1, "1"), (1, None), (1, (1,)), (1, [1]),
                      "11", {0: 1, 1: 1}, [1, 1], (1, 1, 0), (1,), (1, 1, None), (-1, -1), ((1,), (1,))]:
            self.assertIs(shows_even_lot(FREE, value), own_even_lot(FREE, value), value)
            if holds_true_or_false(value):
                self.assertIs(shows_even_lot(FREE, value), False)


class MildTowers(unittest.TestCase):

    def test_own_sums(self):
        for book in BOOKS:
            found = mild_tower(book)
            if found is not None:
                self.assertTrue(own_mild_tower(book, found), book)
                self.assertIs(shows_mild_tower(book, found), True)
                self.assertIs(shows_mild_tower(book, None), False)
            else:
                self.assertIs(shows_mild_tower(book, None), True)
                self.assertIs(shows_mild_tower(book, ()), False)

    def test_just_one_of_mild_tower_and_swell(self):
        seen = {True: 0, False: 0}
        for book in BOOKS:
            self.assertIs(mild_tower(book) is None, swell(book) is not None)
            seen[mild_tower(book) is None] += 1
        self.assertGreater(min(seen.values()), 150)

    def test_mild_towers_and_even_weights_are_towers(self):
        for book in BOOKS:
            found = mild_tower(book)
            if found is not None:
                self.assertIs(shows_tower(book, found), True)
            weights = even_weights(book)
            if weights is not None:
                self.assertIs(shows_tower(book, (("even", weights),)), True)
                self.assertIs(shows_mild_tower(book, (("even", weights),)), True)

    def test_no_rules(self):
        for many in (1, 2, 3, 4):
            book = (many, ())
            self.assertTrue(own_mild_tower(book, mild_tower(book)))
            self.assertIs(shows_mild_tower(book, ()), True)
            self.assertIs(shows_mild_tower(book, (("late", (5,) * many), ("even", (-5,) * many))), True)
            self.assertIs(shows_mild_tower(book, None), False)
            self.assertIs(shows_mild_tower(book, (("late", (5,) * (many + 1)),)), False)
            self.assertIs(shows_mild_tower(book, (("later", (5,) * many),)), False)

    def test_early_sums(self):
        book = read_book("4: 012>123")
        for weights, right in SUMS:
            self.assertIs(shows_mild_tower(book, (("early", weights),)), right, weights)

    def test_late_sums(self):
        book = read_book("4: 210>321")
        for weights, right in SUMS:
            self.assertIs(shows_mild_tower(book, (("late", weights),)), right, weights)
            self.assertIs(shows_mild_tower(read_book("4: 012>123"), (("early", weights),)), right)

    def test_even_sums(self):
        book = read_book("4: 012>123")
        for weights, right in [((1, 5, -5, 0), True), ((0, 5, -5, 0), False), ((0, 5, -5, 1), False),
                               ((0, 0, 0, -1), True)]:
            self.assertIs(shows_mild_tower(book, (("even", weights),)), right)

    def test_sums_of_0_leave_a_rule(self):
        book = read_book("3: 01>10 02>20")
        first, second = ("early", (0, -1, 0)), ("early", (0, 0, -1))
        self.assertIs(shows_mild_tower(book, (first,)), False)
        self.assertIs(shows_mild_tower(book, (second,)), False)
        self.assertIs(shows_mild_tower(book, (first, second)), True)
        self.assertIs(shows_mild_tower(book, (second, first)), True)
        self.assertIs(shows_mild_tower(book, (("early", (0, -1, -1)),)), True)
        # In all, both rules fall by 0.
        self.assertIs(shows_mild_tower(book, (("even", (5, 3, 1)),)), False)
        self.assertIs(shows_mild_tower(book, (("even", (5, 3, 1)), first, second)), True)

    def test_rules_that_are_decided_may_rise_later(self):
        book = read_book("2: 00>01 10>01")
        self.assertIs(shows_mild_tower(book, (("even", (1, 0)), ("early", (0, 1)))), True)
        self.assertIs(shows_mild_tower(book, (("early", (0, 1)), ("even", (1, 0)))), False)

    def test_towers_that_are_not_mild(self):
        book = (2, (((1, 0, 0), (0, 1, 1)),))
        self.assertIs(shows_tower(book, (("early", (0, 1)),)), True)
        self.assertIs(shows_mild_tower(book, (("early", (0, 1)),)), False)
        self.assertIs(shows_mild_tower(book, (("even", (1, 0)),)), True)
        for book in GREATER:
            self.assertIs(ends(book), True)
            self.assertIsNone(mild_tower(book))

    def test_levels_must_all_be_well_formed(self):
        good = ("early", (0, 1))
        for value in [(good, ("late", (0, 0)), ("even", (7, 9))), (good, good)]:
            self.assertIs(shows_mild_tower(SORTS, value), True)
        for more in [("later", (0, 0)), ("late", (0, 0, 0)), ("late", (0, True)), None, (), [], ("late",)]:
            self.assertIs(shows_mild_tower(SORTS, (good, more)), False)

    def test_large_and_negative_weights(self):
        for weights, right in [((0, LARGE), True), ((LARGE, 0), False), ((LARGE, LARGE + 1), True),
                               ((LARGE, LARGE), False), ((-LARGE, 1 - LARGE), True), ((-1, 0), True), ((0, -1), False)]:
            self.assertIs(shows_mild_tower(SORTS, (("early", weights),)), right)
            self.assertIs(shows_mild_tower(SORTS, (("late", weights[::-1]),)), right)
            self.assertIs(shows_mild_tower(SORTS, (("even", weights),)), False)

    def test_changed_towers(self):
        wrong = not_mild = 0
        for book in [book for book in BOOKS if mild_tower(book)][::3] + POLYNOMIAL:
            found = mild_tower(book)
            values = [*changed_integers(found), *itertools.permutations(found, 2), found[1:], found[:-1], found[::-1],
                      found + found]
            for word in ("early", "even", "late"):
                values += [found[:at] + ((word, level[1]),) + found[at + 1:] for at, level in enumerate(found)]
            values += [found[:at] + ((level[0], tuple(-item for item in level[1])),) + found[at + 1:]
                       for at, level in enumerate(found)]
            for value in values:
                right = own_mild_tower(book, value)
                self.assertIs(shows_mild_tower(book, value), right, (book, value))
                wrong += not right
                not_mild += not right and own_tower(book, value)
        self.assertGreater(wrong, 500)
        self.assertGreater(not_mild, 20)

    def test_all_small_levels(self):
        for text in ("2: 001>100 110>011", "2: 011>101 10>00", "3: 01>10", "2: 100>010 110>101"):
            book = read_book(text)
            levels = [(word, weights) for word in ("early", "even", "late")
                      for weights in itertools.product((-2, -1, 0, 1), repeat=book[0])]
            values = [(level,) for level in levels] + list(itertools.product(levels[::5], repeat=2))
            for value in values:
                self.assertIs(shows_mild_tower(book, value), own_mild_tower(book, value), (book, value))

    def test_odd_values(self):
        for book in (SORTS, FREE, FALL, COUNTS, (4, TWELVE)):
            for value in ODD_VALUES:
                right = value is None and mild_tower(book) is None
                self.assertIs(shows_mild_tower(book, value), right, value)
        for book in (SORTS, FREE):
            for value in odd_items((("early", (0, 1)),)):
                right = mild_tower(book) is None if value is None else own_mild_tower(book, value)
                self.assertIs(shows_mild_tower(book, value), right, value)

    def test_odd_levels(self):
        for value in [("early", (0, 1)), [("early", (0, 1))], (["early", (0, 1)],), (("early", [0, 1]),),
                      (("early", (0, 1, 2)),), (("early", (1,)),), (("early", ()),), (("early", (0, 1), ()),),
                      (("early",),), ("early",), (("Early", (0, 1)),), (("early ", (0, 1)),), (("", (0, 1)),),
                      ((None, (0, 1)),), ((0, (0, 1)),), ((("early",), (0, 1)),), ((["early"], (0, 1)),),
                      (({}, (0, 1)),), (("early", "01"),), (("early", {0: 0, 1: 1}),), (((0, 1), "early"),),
                      (("early", (False, True)),), (("early", (0, True)),), (("early", (False, 1)),),
                      "early", {"early": (0, 1)}, (), ((),), True, False, 0, 1, 10 ** 40]:
            self.assertIs(shows_mild_tower(SORTS, value), False, value)
            self.assertIs(shows_mild_tower(FREE, value), False, value)


class Swells(unittest.TestCase):

    def test_own_sums(self):
        for book in BOOKS:
            found = swell(book)
            if found is not None:
                self.assertTrue(own_swell(book, found), book)
                self.assertIs(shows_swell(book, found), True)
                self.assertIs(shows_swell(book, None), False)
                lot, more, less = found
                self.assertIs(shows_even_lot(book, lot), True)
            else:
                self.assertIs(shows_swell(book, None), True)
                zeros = tuple((0,) * len(rule[0]) for rule in book[1])
                self.assertIs(shows_swell(book, ((0,) * len(book[1]), zeros, zeros)), False)

    def test_no_rules(self):
        for many in (1, 2, 3, 4):
            self.assertIsNone(swell((many, ())))
            self.assertIs(shows_swell((many, ()), None), True)
            for value in [((), (), ()), (), ((1,), ((1,),), ((1,),)), ((0,), (), ())]:
                self.assertIs(shows_swell((many, ()), value), False)

    def test_numbers_fall_and_rise_strictly(self):
        lot, more, less = SWAPS_SWELL
        for spread, falls, rises in [
                (((2, 1), (2, 1)), True, False), (((9, 1), (9, 1)), True, False), (((1, 2), (1, 2)), False, True),
                (((1, 1), (1, 1)), False, False), (((1, 0), (1, 0)), False, False), (((0, 1), (0, 1)), False, False),
                (((2, 1), (1, 2)), False, False), (((3, 2), (2, 1)), True, False), (((3, 1), (2, 1)), False, False),
                (((1, 2), (2, 3)), False, True), (((0, 0), (0, 0)), False, False),
                (((LARGE, 1), (LARGE, 1)), True, False), (((1, LARGE), (1, LARGE)), False, True),
                (((LARGE, 1), (LARGE + 1, 1)), False, False), (((1, -1), (1, -1)), False, False)]:
            self.assertIs(shows_swell(SWAPS, (lot, spread, less)), falls, spread)
            self.assertIs(shows_swell(SWAPS, (lot, more, spread)), rises, spread)

    def test_three_places(self):
        book = read_book("2: 001>110 110>001")
        lot, more, less = (1, 1), ((3, 2, 1),) * 2, ((1, 2, 3),) * 2
        self.assertIs(shows_swell(book, (lot, more, less)), True)
        for numbers in [(3, 2, 2), (2, 2, 1), (3, 1, 2), (1, 3, 2), (1, 1, 1), (2, 1, 0)]:
            self.assertIs(shows_swell(book, (lot, (numbers,) * 2, less)), False)
            self.assertIs(shows_swell(book, (lot, more, (numbers[::-1],) * 2)), False)

    def test_lots(self):
        _, more, less = SWAPS_SWELL
        for lot, right in [((1, 1), True), ((5, 2), True), ((LARGE, 1), True), ((1, 0), False), ((0, 1), False),
                           ((0, 0), False), ((-1, 1), False), ((True, 1), False), ((1,), False), ((1, 1, 1), False),
                           ([1, 1], False), (None, False), ((), False)]:
            self.assertIs(shows_swell(SWAPS, (lot, more, less)), right, lot)
        one = ((1,), (1,))
        for lot, right in [((1, 1), True), ((7, 7), True), ((1, 2), False), ((LARGE, LARGE + 1), False)]:
            self.assertIs(shows_swell(FREE, (lot, one, one)), right, lot)

    def test_rules_outside_of_the_lot(self):
        book = read_book("3: 0>1 02>00 1>0 222>022")
        lot, spread = (1, 0, 1, 0), ((1,), (0, 0), (1,), (0, 0, 0))
        self.assertIs(shows_swell(book, (lot, spread, spread)), True)
        for other in [((1,), (1, 0), (1,), (0, 0, 0)), ((1,), (0, 0), (2,), (0, 0, 0)), ((0,), (0, 0), (0,), (0, 0, 0)),
                      ((2,), (0, 0), (1,), (1, 0, 0)), ((1,), (0,), (1,), (0,))]:
            self.assertIs(shows_swell(book, (lot, other, spread)), False)
            self.assertIs(shows_swell(book, (lot, spread, other)), False)
        book = read_book("2: 0>1 00>11 1>0")
        for lot, spread, right in [((1, 0, 1), ((1,), (0, 0), (1,)), True), ((1, 0, 1), ((1,), (1, 1), (3,)), False),
                                   ((1, 1, 3), ((1,), (0, 0), (1,)), False)]:
            self.assertIs(shows_swell(book, (lot, spread, spread)), right)

    def test_changed_swells(self):
        wrong = 0
        for book in [book for book in BOOKS if mild_tower(book) is None]:
            lot, more, less = swell(book)
            turned_more, turned_less = [tuple(item[::-1] for item in spread) for spread in (more, less)]
            for value in [*list(changed_integers((lot, more, less)))[::5], (lot, less, more), (lot, more),
                          (more, lot, less), (lot, turned_more, less), (lot, more, turned_less),
                          (lot, more, less[::-1]),
                          (lot, more[:-1], less), (lot, more, less, ()), [lot, more, less],
                          (lot, list(more), less), (lot, more, list(less)), (list(lot), more, less)]:
                right = own_swell(book, value)
                self.assertIs(shows_swell(book, value), right, (book, value))
                wrong += not right
        self.assertGreater(wrong, 500)

    def test_odd_values(self):
        for book in (SORTS, FREE, FALL, COUNTS, (4, TWELVE)):
            for value in ODD_VALUES:
                self.assertIs(shows_swell(book, value), value is None and swell(book) is None, value)
        for book, value in [(FREE, SWELL), (SWAPS, SWAPS_SWELL)]:
            self.assertIs(shows_swell(book, value), True)
            for other in odd_items(value):
                right = other is None and swell(book) is None or own_swell(book, other)
                self.assertIs(shows_swell(book, other), right, other)
                if holds_true_or_false(other):
                    self.assertIs(shows_swell(book, other), False)


class Arguments(unittest.TestCase):

    def test_bad_books(self):
        for book, index in BAD_BOOKS:
            for function in (growth, even_weights, even_lot, mild_tower, swell):
                with self.assertRaises(BadBook) as caught:
                    function(book)
                self.assertEqual(caught.exception.index, index, (function, book))
            for function in (shows_even_weights, shows_even_lot, shows_mild_tower, shows_swell):
                for value in (None, 7, [], (0, 1), (("even", (0, 1)),)):
                    with self.assertRaises(BadBook) as caught:
                        function(book, value)
                    self.assertEqual(caught.exception.index, index, (function, book))

    def test_no_argument_is_modified(self):
        values = ODD_VALUES + [[0, 1], [["early", [0, 1]]], [[1, 1], [[1], [1]], [[1], [1]]], ([1, 1], [[1], [1]], {})]
        for value in values:
            kept = copy.deepcopy(value)
            for book in (SORTS, FREE, FALL):
                for function in (shows_even_weights, shows_even_lot, shows_mild_tower, shows_swell):
                    function(book, value)
                    self.assertEqual(value, kept)

    def test_answers_are_tuples_of_integers(self):
        def plain(value):
            return type(value) in (int, str) or type(value) is tuple and all(map(plain, value))
        for book in BOOKS[::5]:
            for function in (growth, even_weights, even_lot, mild_tower, swell):
                self.assertTrue(plain(function(book) or ()))
