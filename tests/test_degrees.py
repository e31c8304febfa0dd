import copy
import itertools
import unittest

from odd import ENDLESS, GREATER, LINEAR, POLYNOMIAL, changed_integers, holds_true_or_false, odd_items
from own import own_longest
from own_lengths import own_ladder, own_mild_tower, own_slopes
from scatterbooks import degrees
from scatterbooks.books import mirrored, renamed
from scatterbooks.booktext import read_book
from scatterbooks.degrees import degree, few_slopes, ladder, shows_few_slopes, shows_ladder
from scatterbooks.errors import BadBook
from scatterbooks.lengths import growth, mild_tower, shows_even_lot, shows_mild_tower
from values import BAD_BOOKS, FREE, MEET, ODD_VALUES, SORTS, TWELVE, many_books

FALL = (2, (((1, 0), (0, 0)),))
THIRD = (3, (((0, 1), (2, 0)), ((1, 0), (0, 0)), ((1, 2), (2, 1)), ((2, 2), (1, 2))))
THIRD_LADDER = ((1, 0, 1, 1), ((2, 2), (0, 0), (1, 2), (1, 2)), (0, 0, 1, 0))
THIRD_TOWER = (("even", (-1, 1, 1)), ("late", (-1, 1, 1)), ("even", (-1, -1, 1)), ("late", (-1, -1, 1)))

# Books with the degrees that they have.
DEGREES = [
    ("1:", 0), ("2:", 0), ("4:", 0), ("2: 10>00", 1), ("2: 1>0", 1), ("2: 11>00", 1), ("3: 01>22 2>0", 1),
    ("4: 000>001 001>011 011>111 111>222 222>333", 1), ("2: 10>01", 2), ("2: 01>10", 2), ("2: 011>101", 2),
    ("2: 100>010 110>011", 2), ("3: 10>01 20>02 21>12", 2), ("3: 10>01 211>021", 2), ("2: 10>01 11>00", 2),
    ("3: 01>20 10>00 12>21 22>12", 3), ("3: 121>211 201>120", 3), ("4: 122>221 213>132", 3),
    ("4: 001>010 003>113 1>2 211>102 231>013", 4),
]

BOOKS = many_books()[::2] + LINEAR + POLYNOMIAL + GREATER + ENDLESS + [FALL, MEET, THIRD]
BOOKS += [read_book(text) for text, _ in DEGREES]
MILD = [book for book in BOOKS if growth(book) in ("linear", "polynomial")]
STEEP = [book for book in MILD if degree(book) >= 2]
OTHERS = GREATER + ENDLESS
LARGE = 10 ** 500


class Examples(unittest.TestCase):

    def test_examples(self):
        self.assertEqual(
            [degree(FALL), ladder(FALL), degree(SORTS), shows_ladder(SORTS, ((1,),)),
             shows_few_slopes(SORTS, (("early", (0, 1)),)), degree(FREE), few_slopes(FREE), degree(THIRD)],
            [1, (), 2, True, True, None, None, 3])

    def test_functions_stand_in_the_file(self):
        for function in (degree, few_slopes, ladder, shows_few_slopes, shows_ladder):
            self.assertEqual(function.__module__, degrees.__name__)


class Degree(unittest.TestCase):

    def test_a_book_of_each(self):
        for text, right in DEGREES:
            self.assertEqual(degree(read_book(text)), right, text)

    def test_other_growth(self):
        for book in BOOKS:
            self.assertIs(degree(book) is None, growth(book) in ("greater", "endless"))

    def test_linear_just_up_to_degree_1(self):
        seen = {}
        for book in MILD:
            power = degree(book)
            self.assertIs(growth(book) == "linear", power <= 1)
            self.assertIs(power == 0, not book[1])
            seen[power] = seen.get(power, 0) + 1
        self.assertEqual(sorted(seen), [0, 1, 2, 3, 4])

    def test_slopes_and_lots_meet(self):
        for book in MILD:
            power = degree(book)
            slopes = few_slopes(book)
            papers = ladder(book)
            self.assertTrue(own_mild_tower(book, slopes), book)
            self.assertTrue(own_ladder(book, papers), book)
            self.assertEqual(own_slopes(slopes), max(power - 1, 0))
            self.assertEqual(len(papers[::2]), max(power - 1, 0))

    def test_renamed_and_mirrored_books(self):
        for book in MILD[::5] + POLYNOMIAL:
            self.assertEqual(degree(mirrored(book)), degree(book))
            self.assertEqual(degree(renamed(book, tuple(range(book[0]))[::-1])), degree(book))

    def test_fewer_rules_have_no_greater_degree(self):
        for many, rules in MILD[::5] + POLYNOMIAL:
            for at in range(len(rules)):
                self.assertLessEqual(degree((many, rules[:at] + rules[at + 1:])), degree((many, rules)))

    def test_runs_grow_with_the_power(self):
        for text, word, power, share in [
                ("2: 1>0", lambda size: (1,) * size, 1, 1), ("2: 10>00", lambda size: (1,) * (size - 1) + (0,), 1, 2),
                ("2: 10>01", lambda size: (1,) * (size // 2) + (0,) * (size - size // 2), 2, 5),
                ("3: 01>20 10>00 12>21 22>12", lambda size: (0,) + (2,) * (size - 1), 3, 6)]:
            book = read_book(text)
            self.assertEqual(degree(book), power)
            for size in range(3, 8):
                self.assertGreaterEqual(own_longest(book[1], word(size)) * share, size ** power)


class FewSlopes(unittest.TestCase):

    def test_own_sums(self):
        for book in MILD:
            found = few_slopes(book)
            self.assertTrue(own_mild_tower(book, found), book)
            self.assertIs(shows_few_slopes(book, found), True)
            self.assertIs(shows_few_slopes(book, None), False)
            self.assertIs(shows_mild_tower(book, found), True)

    def test_no_more_than_other_mild_towers(self):
        for book in MILD:
            found = mild_tower(book)
            self.assertGreaterEqual(own_slopes(found), own_slopes(few_slopes(book)))
            self.assertIs(shows_few_slopes(book, found), own_slopes(found) == own_slopes(few_slopes(book)))

    def test_no_small_mild_tower_has_fewer_slopes(self):
        some = (-1, 0, 1)
        for book in STEEP[::9] + POLYNOMIAL[:6]:
            if book[0] <= 3:
                evens = [("even", weights) for weights in itertools.product(some, repeat=book[0])]
                slopes = [(word, weights) for word in ("early", "late") for weights in
                          itertools.product(some, repeat=book[0])]
                fewer = [(level,) for level in evens] + list(itertools.product(evens, repeat=2))
                if degree(book) > 2:
                    fewer += [(level, slope) for level in evens for slope in slopes]
                self.assertFalse(any(shows_mild_tower(book, value) for value in fewer))

    def test_even_levels_are_free(self):
        even = ("even", (0, 0))
        early = ("early", (0, 1))
        late = ("late", (1, 0))
        for value, right in [((early,), True), ((late,), True), ((even, early), True), ((even, even, late, even), True),
                             ((early, late), False), ((early, early), False), ((even, early, ("late", (0, 0))), False),
                             ((("early", (3, 3)), early), False), ((), False), ((even,), False)]:
            self.assertIs(shows_few_slopes(SORTS, value), right, value)
            self.assertIs(own_mild_tower(SORTS, value), right or len(value) > 1)

    def test_linear_books_need_no_slope(self):
        self.assertIs(shows_few_slopes(FALL, (("even", (0, 1)),)), True)
        self.assertIs(shows_few_slopes(FALL, (("even", (0, 0)), ("even", (0, 5)))), True)
        self.assertIs(shows_few_slopes(FALL, (("early", (0, 1)),)), False)
        self.assertIs(shows_mild_tower(FALL, (("early", (0, 1)),)), True)

    def test_more_slopes_than_needed(self):
        self.assertIs(shows_few_slopes(THIRD, THIRD_TOWER), True)
        for at in range(5):
            for level in [("late", (0, 0, 0)), ("early", (2, 2, 2))]:
                self.assertIs(shows_mild_tower(THIRD, THIRD_TOWER[:at] + (level,) + THIRD_TOWER[at:]), True)
                self.assertIs(shows_few_slopes(THIRD, THIRD_TOWER[:at] + (level,) + THIRD_TOWER[at:]), False)
            value = THIRD_TOWER[:at] + (("even", (0, 0, 0)),) + THIRD_TOWER[at:]
            self.assertIs(shows_few_slopes(THIRD, value), True)

    def test_no_rules(self):
        for many in (1, 2, 3, 4):
            book = (many, ())
            self.assertIs(shows_few_slopes(book, few_slopes(book)), True)
            for value, right in [((), True), ((("even", (1,) * many),), True), ((("late", (1,) * many),), False),
                                 ((("early", (0,) * many),), False), (None, False), ([], False),
                                 ((("even", ()),), False)]:
                self.assertIs(shows_few_slopes(book, value), right, value)

    def test_other_growth(self):
        for book in OTHERS:
            self.assertIsNone(few_slopes(book))
            self.assertIs(shows_few_slopes(book, None), True)
            for value in [(), (("even", (0,) * book[0]),), (("early", tuple(range(book[0]))),), 0, False, [], "None"]:
                self.assertIs(shows_few_slopes(book, value), False)

    def test_changed_towers(self):
        wrong = 0
        for book in MILD[::6] + POLYNOMIAL:
            found = few_slopes(book)
            values = [*changed_integers(found), found[1:], found[:-1], found[::-1], found + found]
            for word in ("early", "even", "late"):
                values += [found[:at] + ((word, level[1]),) + found[at + 1:] for at, level in enumerate(found)]
                values += [found[:at] + ((word, tuple(-item for item in level[1])),) + found[at + 1:]
                           for at, level in enumerate(found)]
            for value in values:
                right = own_mild_tower(book, value) and own_slopes(value) == own_slopes(found)
                self.assertIs(shows_few_slopes(book, value), right, (book, value))
                wrong += not right
        self.assertGreater(wrong, 500)

    def test_odd_values(self):
        for book in (SORTS, FREE, FALL, THIRD, (4, TWELVE)):
            for value in ODD_VALUES:
                self.assertIs(shows_few_slopes(book, value), value is None and degree(book) is None, value)
        for value in odd_items((("early", (0, 1)),)):
            right = own_mild_tower(SORTS, value) and own_slopes(value) == 1
            self.assertIs(shows_few_slopes(SORTS, value), right, value)
            self.assertIs(shows_few_slopes(FREE, value), value is None, value)
            if holds_true_or_false(value):
                self.assertIs(shows_few_slopes(SORTS, value), False)


class Ladders(unittest.TestCase):

    def test_own_sums(self):
        for book in MILD:
            found = ladder(book)
            self.assertTrue(own_ladder(book, found), book)
            self.assertIs(shows_ladder(book, found), True)
            self.assertIs(shows_ladder(book, None), False)
            for lot in found[::2]:
                self.assertIs(shows_even_lot(book, lot), True)

    def test_degrees_without_lots(self):
        for book in [(many, ()) for many in (1, 2, 3, 4)] + LINEAR + [FALL]:
            self.assertEqual(ladder(book), ())
            for value, right in [((), True), (None, False), ([], False), (((1,) * len(book[1]),), False), ((0,), False),
                                 (((),), False), ({}, False), ("", False), (False, False), (0, False)]:
                self.assertIs(shows_ladder(book, value), right, value)

    def test_one_lot(self):
        for value, right in [(((1,),), True), (((LARGE,),), True), (((0,),), False), (((-1,),), False), ((), False),
                             (((True,),), False), (((1, 1),), False), (((),), False), (([1],), False), ([(1,)], False),
                             (((1,), ((1, 2),)), False), (((1,), ((1, 2),), (1,)), False), ((1,), False),
                             (((1,), ()), False),
                             (((1,), None), False), ("1", False), (("1",), False), (((1,), (1,)), False)]:
            self.assertIs(shows_ladder(SORTS, value), right, value)

    def test_two_lots(self):
        self.assertIs(shows_ladder(THIRD, THIRD_LADDER), True)
        first, spread, last = THIRD_LADDER
        for lot, right in [((1, 0, 1, 1), True), ((2, 0, 5, 2), True), ((1, 1, 1, 1), False), ((1, 0, 1, 2), False),
                           ((0, 0, 1, 0), False), ((LARGE, 0, 1, LARGE), True), ((0, 0, 0, 0), False),
                           ((1, 0, 0, 1), False), ((1, 0, 1), False), ((1, False, 1, 1), False)]:
            self.assertIs(shows_ladder(THIRD, (lot, spread, last)), right, lot)
        for lot, right in [((0, 0, 1, 0), True), ((0, 0, LARGE, 0), True), ((1, 0, 1, 1), False), ((0, 0, 0, 0), False),
                           ((1, 0, 0, 1), False), ((0, 0, -1, 0), False), ((0, 0, True, 0), False),
                           ((0, 1, 1, 0), False)]:
            self.assertIs(shows_ladder(THIRD, (first, spread, lot)), right, lot)
        self.assertIs(shows_ladder(THIRD, (first,)), False)
        self.assertIs(shows_ladder(THIRD, (last,)), False)
        self.assertIs(shows_ladder(THIRD, ()), False)
        self.assertIs(shows_ladder(THIRD, (last, spread, first)), False)
        self.assertIs(shows_ladder(THIRD, (first, spread)), False)
        self.assertIs(shows_ladder(THIRD, (first, spread, last, spread)), False)
        self.assertIs(shows_ladder(THIRD, (first, spread, last, spread, last)), False)

    def test_spreads_do_not_fall_and_rise_strictly_above_a_lot(self):
        first, _, last = THIRD_LADDER
        for spread, right in [
                (((2, 2), (0, 0), (1, 2), (1, 2)), True), (((1, 1), (0, 0), (1, 2), (0, 1)), True),
                (((1, 1), (0, 0), (0, 1), (0, 1)), False), (((2, 2), (0, 0), (2, 2), (2, 2)), False),
                (((2, 2), (0, 0), (2, 1), (2, 1)), False), (((2, 2), (0, 0), (1, 2), (2, 2)), False),
                (((2, 2), (1, 1), (1, 2), (1, 2)), False), (((2, 2), (0, 0), (1, 2), (1, 3)), True),
                (((2, 2), (0, 0), (1, 2), (2, 3)), False), (((2, 2), (0, 0), (1, 2), (1, 0)), False),
                (((LARGE, LARGE), (0, 0), (1, 2), (LARGE - 1, LARGE)), True), (((0, 0),) * 4, False),
                (((2, 2), (0, 0), (1, LARGE), (1, LARGE)), False), (((2, 2), (0, 0), (1, 2), (1, True)), False),
                (((2, 2), (0, 0), (1, 2)), False), (((2, 2), (0, 0), (1, 2), (1, 2), (0, 0)), False),
                (((2, 2), (0, 0), (1, 2), (1, 2, 3)), False), (((2, 2), (0, 0), (1, 2), [1, 2]), False),
                (((2, 2), (0, 0), (1, 2), None), False), (None, False), (0, False), ((), False), ([], False)]:
            self.assertIs(shows_ladder(THIRD, (first, spread, last)), right, spread)
            self.assertIs(own_ladder(THIRD, (first, spread, last)), right, spread)

    def test_small_papers(self):
        first, spread, last = THIRD_LADDER
        for lot in itertools.product(range(3), repeat=4):
            for value in [(lot, spread, last), (first, spread, lot), (lot, spread, lot)]:
                self.assertIs(shows_ladder(THIRD, value), own_ladder(THIRD, value))
        pairs = list(itertools.product(range(3), repeat=2))
        for items in itertools.product(pairs, [(0, 0), (0, 1)], pairs, pairs):
            self.assertIs(shows_ladder(THIRD, (first, items, last)), own_ladder(THIRD, (first, items, last)))

    def test_longest_ladders_only(self):
        for book in STEEP:
            found = ladder(book)
            for many in range(0, len(found), 2):
                self.assertTrue(own_ladder(book, found[:many - 1] if many else ()))
                self.assertIs(shows_ladder(book, found[:many - 1] if many else ()), False)

    def test_other_growth(self):
        for book in OTHERS:
            self.assertIsNone(ladder(book))
            self.assertIs(shows_ladder(book, None), True)
            for value in [(), ((1,) * len(book[1]),), 0, False, [], "None"]:
                self.assertIs(shows_ladder(book, value), False)

    def test_changed_ladders(self):
        wrong = right = 0
        for book in STEEP[::2] + POLYNOMIAL:
            found = ladder(book)
            size = len(found)
            values = [*changed_integers(found), found[::-1], found[1:], found[:-1], found + found, found + ((),)]
            values += [tuple(3 * item for item in found[0]), (tuple(3 * item for item in found[0]),) + found[1:]]
            for value in values:
                good = own_ladder(book, value) and len(value) == size
                self.assertIs(shows_ladder(book, value), good, (book, value))
                wrong += not good
                right += good
        self.assertGreater(wrong, 500)
        self.assertGreater(right, 100)

    def test_odd_values(self):
        for book in (SORTS, FREE, FALL, THIRD, (4, TWELVE)):
            for value in ODD_VALUES:
                right = degree(book) is None if value is None else value == () and ladder(book) == ()
                self.assertIs(shows_ladder(book, value), right, value)
        for value in odd_items(THIRD_LADDER):
            self.assertIs(shows_ladder(THIRD, value), own_ladder(THIRD, value) and len(value) == 3, value)
            self.assertIs(shows_ladder(FREE, value), value is None, value)
            if holds_true_or_false(value):
                self.assertIs(shows_ladder(THIRD, value), False)


class Arguments(unittest.TestCase):

    def test_bad_books(self):
        for book, index in BAD_BOOKS:
            for function in (degree, few_slopes, ladder):
                with self.assertRaises(BadBook) as caught:
                    function(book)
                self.assertEqual(caught.exception.index, index, (function, book))
            for function in (shows_few_slopes, shows_ladder):
                for value in (None, 7, [], (), ((1,),), (("early", (0, 1)),)):
                    with self.assertRaises(BadBook) as caught:
                        function(book, value)
                    self.assertEqual(caught.exception.index, index, (function, book))

    def test_no_argument_is_modified(self):
        values = ODD_VALUES + [[["early", [0, 1]]], [[1]], ([1],), ([1], [[1, 2]], [1]), [list(THIRD_LADDER[0])]]
        for value in values:
            kept = copy.deepcopy(value)
            for book in (SORTS, FREE, FALL, THIRD):
                for function in (shows_few_slopes, shows_ladder):
                    function(book, value)
                    self.assertEqual(value, kept)

    def test_answers_are_tuples_of_integers(self):
        def plain(value):
            return type(value) in (int, str) or type(value) is tuple and all(map(plain, value))
        for book in MILD[::5] + POLYNOMIAL:
            for function in (degree, few_slopes, ladder):
                self.assertTrue(plain(function(book)))
