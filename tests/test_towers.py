import copy
import itertools
import unittest

from odd import changed_integers, holds_true_or_false, odd_items
from own import own_balanced, own_knot, own_steps, own_tower
from scatterbooks import towers
from scatterbooks.errors import BadBook
from scatterbooks.towers import ends, knot, shows_knot, shows_tower, tower
from values import BAD_BOOKS, FREE, MEET, ODD_VALUES, SORTS, TWELVE, all_words, every_rule, many_books

SPREAD = ((1,), (1,))
FREE_KNOT = ((1, 1), (SPREAD,), (SPREAD,))

# Two rules that exchange the letters 0 and 1 to and fro, and a knot of them.
SWAPS = (2, (((0, 1), (1, 0)), ((1, 0), (0, 1))))
FIRST, SECOND = ((1, 0), (1, 0)), ((0, 1), (0, 1))
SWAPS_KNOT = ((1, 1), (FIRST, SECOND), (SECOND, FIRST))

# Books that end, with the only words that a first level of use can have.
ONE_WORD = [
    ("early", (2, (((0,), (1,)), ((0, 1, 1), (1, 0, 0))))),
    ("even", (2, (((0, 0, 1), (0, 1, 0)), ((1, 0, 0), (0, 1, 1))))),
    ("late", (2, (((0,), (1,)), ((1, 1, 0), (0, 0, 1))))),
]

# Books that end, with a tower whose levels are all needed, in this order.
IN_TURN = [
    ((2, (((0, 0, 1), (0, 1, 0)), ((1, 0, 0), (0, 1, 1)))), (("even", (1, 0)), ("early", (1, 0)))),
    ((2, (((0, 1), (1, 0)), ((1, 1, 0), (0, 0, 1)))), (("even", (0, 1)), ("late", (0, 1)))),
    ((3, (((0, 1), (1, 0)), ((0, 2, 2), (2, 1, 0)), ((1, 1, 0), (0, 2, 2)))),
     (("early", (1, 1, -1)), ("early", (1, -1, -1)))),
    ((3, (((0, 2, 2), (1, 0, 0)), ((1, 1, 0), (0, 2, 1)), ((2, 1, 0), (2, 1, 2)), ((2, 2, 0), (0, 0, 2)))),
     (("late", (1, -1, 1)), ("late", (1, -1, -1)))),
    ((3, (((0, 0), (1, 0)), ((0, 2, 2), (2, 1, 0)), ((1, 1, 0), (0, 0, 1)), ((2, 0, 1), (2, 2, 0)))),
     (("early", (1, 1, -1)), ("late", (1, -1, -1)))),
    ((3, (((0, 0, 1), (2, 2, 0)), ((1, 1, 2), (0, 1, 0)), ((2, 1, 1), (1, 2, 2)), ((2, 2), (1, 2)))),
     (("late", (-1, 1, 1)), ("early", (-1, -1, 1)))),
    ((3, (((0, 1, 2), (0, 2, 1)), ((1, 0, 0), (0, 2, 2)), ((2, 1, 1), (1, 0, 0)), ((2, 2, 1), (1, 1, 2)))),
     (("early", (-1, 1, 1)), ("even", (-1, -1, 1)), ("late", (-1, -1, 1)))),
    ((3, (((0, 0, 2), (1, 1, 0)), ((1, 2), (2, 1)), ((2, 1, 1), (1, 2, 2)), ((2, 1, 2), (1, 0, 1)))),
     (("late", (-1, 1, 1)), ("even", (-1, 1, -1)), ("early", (-1, 1, -1)))),
]

# Twelve rules that only ever put greater letters for less ones, or the other way round as well.
RISING = (4, tuple(rule for rule in every_rule(4, (2,)) if rule[0][0] < rule[1][0])[::7][:12])
BOOKS = many_books() + [RISING, SWAPS, FREE, MEET, SORTS]
BOOKS += [book for _, book in ONE_WORD] + [book for book, _ in IN_TURN]


class Examples(unittest.TestCase):

    def test_examples(self):
        self.assertEqual(
            [ends(SORTS), knot(SORTS), shows_tower(SORTS, (("early", (0, 1)),)),
             shows_tower(SORTS, (("late", (1, 0)),)), ends(FREE), tower(FREE),
             shows_knot(FREE, ((1, 1), (SPREAD,), (SPREAD,))), shows_knot(FREE, ((1, 2), (SPREAD,), (SPREAD,)))],
            [True, None, True, True, False, None, True, False])

    def test_functions_stand_in_the_file(self):
        for function in (ends, knot, shows_knot, shows_tower, tower):
            self.assertEqual(function.__module__, towers.__name__)


class Ends(unittest.TestCase):

    def test_ordinary(self):
        self.assertIs(ends(SORTS), True)
        self.assertIs(ends(MEET), True)
        self.assertIs(ends(FREE), False)
        self.assertIs(ends(SWAPS), False)
        self.assertIs(ends((3, (((0,), (1,)), ((1,), (2,)), ((2,), (0,))))), False)
        self.assertIs(ends((3, (((0,), (1,)), ((1,), (2,))))), True)

    def test_rules_that_only_go_on_together(self):
        book = (2, (((0, 0), (1, 1)), ((1,), (0,))))
        self.assertIs(ends(book), False)
        for rule in book[1]:
            self.assertIs(ends((2, (rule,))), True)

    def test_no_rules(self):
        for many in (1, 2, 3, 4):
            self.assertIs(ends((many, ())), True)

    def test_twelve_rules(self):
        self.assertEqual(len(RISING[1]), 12)
        self.assertIs(ends(RISING), True)
        self.assertIs(ends((4, TWELVE)), False)

    def test_each_word_of_a_level_is_needed(self):
        for word, book in ONE_WORD:
            self.assertIs(ends(book), True)
            self.assertIn(word, [level[0] for level in tower(book)])

    def test_runs_from_short_words(self):
        for many, rules in BOOKS[::3]:
            for size in range(1, 4 if many < 4 else 3):
                words = all_words(many, size)
                graph = {word: own_steps(rules, word) for word in words}
                done = set()
                while True:
                    ready = [word for word in words if word not in done and graph[word] <= done]
                    if not ready:
                        break
                    done.update(ready)
                if len(done) < len(words):
                    self.assertIs(ends((many, rules)), False)

    def test_just_one_of_tower_and_knot(self):
        count = {True: 0, False: 0}
        for book in BOOKS:
            found = tower(book)
            other = knot(book)
            self.assertIs(ends(book), found is not None)
            self.assertIs(ends(book), other is None)
            count[ends(book)] += 1
        self.assertGreater(min(count.values()), 100)


class Towers(unittest.TestCase):

    def test_own_sums(self):
        for book in BOOKS:
            found = tower(book)
            if found is not None:
                self.assertTrue(own_tower(book, found), book)
                self.assertIs(shows_tower(book, found), True)
                self.assertIs(shows_tower(book, None), False)
            else:
                self.assertIs(shows_tower(book, None), True)
                self.assertIs(shows_tower(book, ()), False)

    def test_no_rules(self):
        for many in (1, 2, 3, 4):
            book = (many, ())
            self.assertTrue(own_tower(book, tower(book)))
            self.assertIs(shows_tower(book, ()), True)
            self.assertIs(shows_tower(book, (("late", (5,) * many), ("even", (-5,) * many))), True)
            self.assertIs(shows_tower(book, None), False)
            self.assertIs(shows_tower(book, (("late", (5,) * (many + 1)),)), False)
            self.assertIs(shows_tower(book, (("later", (5,) * many),)), False)

    def test_first_and_last_place_that_does_not_fall_by_0(self):
        book = (3, (((0, 2, 1), (0, 1, 2)),))
        for value in [(("early", (0, 0, 1)),), (("late", (0, 1, 0)),), (("early", (7, -1, 0)),),
                      (("late", (7, 0, -1)),), (("even", (3, 2, 1)), ("early", (0, 1, 3)))]:
            self.assertIs(shows_tower(book, value), True, value)
        for value in [(("early", (0, 1, 0)),), (("late", (0, 0, 1)),), (("even", (0, 0, 1)),), (("early", (1, 0, 0)),),
                      (("early", (1, 1, 1)),), (("even", (3, 2, 1)),), ()]:
            self.assertIs(shows_tower(book, value), False, value)

    def test_sum_over_all_places(self):
        book = (3, (((0, 0), (1, 2)),))
        for weights, right in [((1, 0, 1), True), ((1, 0, 2), False), ((1, -1, 2), True), ((0, 0, 0), False),
                               ((2, 0, 5), False), ((2, 5, -2), True)]:
            self.assertIs(shows_tower(book, (("even", weights),)), right)

    def test_a_level_may_not_rise(self):
        book = (2, (((0,), (1,)), ((1, 1), (0, 0))))
        for word in ("early", "even", "late"):
            self.assertIs(shows_tower(book, ((word, (1, 0)),)), False)
            self.assertIs(shows_tower(book, ((word, (0, 1)),)), False)

    def test_levels_in_turn(self):
        for book, value in IN_TURN:
            self.assertIs(shows_tower(book, value), True)
            self.assertIs(shows_tower(book, value + value), True)
            self.assertIs(shows_tower(book, (("late", (3,) * book[0]),) + value), True)
            for many in range(len(value)):
                for some in itertools.permutations(value, many):
                    self.assertIs(shows_tower(book, some), False)
            for other in itertools.permutations(value):
                self.assertIs(shows_tower(book, other), other == value)

    def test_rules_that_are_decided_may_rise_later(self):
        book = (2, (((0, 0), (0, 1)), ((1, 0), (0, 1))))
        self.assertIs(shows_tower(book, (("even", (1, 0)), ("early", (0, 1)))), True)
        self.assertIs(shows_tower(book, (("early", (0, 1)), ("even", (1, 0)))), False)

    def test_large_and_negative_weights(self):
        large = 10 ** 500
        for weights, right in [((0, large), True), ((large, 0), False), ((large, large + 1), True),
                               ((large, large), False), ((-large, 1 - large), True), ((-1, 0), True), ((0, -1), False)]:
            self.assertIs(shows_tower(SORTS, (("early", weights),)), right)
            self.assertIs(shows_tower(SORTS, (("late", weights[::-1]),)), right)
            self.assertIs(shows_tower(SORTS, (("even", weights),)), False)

    def test_changed_towers(self):
        wrong = 0
        for book in [book for book in BOOKS if ends(book)][::5]:
            found = tower(book)
            values = list(changed_integers(found))
            values += list(itertools.permutations(found, 2)) + [found[1:], found[:-1], found[::-1], found + found]
            for word in ("early", "even", "late"):
                values += [found[:at] + ((word, level[1]),) + found[at + 1:] for at, level in enumerate(found)]
            values += [found[:at] + ((level[0], tuple(-item for item in level[1])),) + found[at + 1:]
                       for at, level in enumerate(found)]
            for value in values:
                right = own_tower(book, value)
                self.assertIs(shows_tower(book, value), right, (book, value))
                wrong += not right
        self.assertGreater(wrong, 500)

    def test_opposite_and_missing_levels_are_wrong(self):
        for book in [book for book in BOOKS if ends(book) and book[1]]:
            found = tower(book)
            opposite = tuple((word, tuple(-item for item in weights)) for word, weights in found)
            self.assertIs(shows_tower(book, opposite), False)
            self.assertIs(shows_tower(book, ()), False)
            self.assertIs(shows_tower(book, found[:-1]), own_tower(book, found[:-1]))

    def test_odd_values(self):
        for book in (SORTS, FREE, SWAPS, (4, TWELVE)):
            for value in ODD_VALUES:
                right = not ends(book) if value is None else False
                self.assertIs(shows_tower(book, value), right, value)
            for value in odd_items((("early", (0, 1)),)):
                right = not ends(book) if value is None else own_tower(book, value)
                self.assertIs(shows_tower(book, value), right, value)

    def test_odd_levels(self):
        for value in [("early", (0, 1)), [("early", (0, 1))], (["early", (0, 1)],), (("early", [0, 1]),),
                      (("early", (0, 1, 2)),), (("early", (1,)),), (("early", ()),), (("early", (0, 1), ()),),
                      (("early",),), ("early",), (("Early", (0, 1)),), (("early ", (0, 1)),), (("", (0, 1)),),
                      ((None, (0, 1)),), ((0, (0, 1)),), ((("early",), (0, 1)),), ((["early"], (0, 1)),),
                      (({}, (0, 1)),), (("early", "01"),), (("early", {0: 0, 1: 1}),), (((0, 1), "early"),),
                      (("early", (0, "1")),), (("early", (0, None)),), (("early", (0, (1,))),), (("early", (0, [])),),
                      (("early", (False, True)),), (("early", (0, True)),), (("early", (False, 1)),),
                      (("early", (0, 1)), None), (("early", (0, 1)), ("late", (0, True))), (("early", (0, 1)), ()),
                      "early", {"early": (0, 1)}, (), ((),), True, False, 0, 1, 10 ** 40]:
            self.assertIs(shows_tower(SORTS, value), False, value)
            self.assertIs(shows_tower(FREE, value), False, value)


class Knots(unittest.TestCase):

    def test_own_sums(self):
        for book in BOOKS:
            found = knot(book)
            if found is not None:
                self.assertTrue(own_knot(book, found), book)
                self.assertIs(shows_knot(book, found), True)
                self.assertIs(shows_knot(book, None), False)
            else:
                self.assertIs(shows_knot(book, None), True)
                self.assertIs(shows_knot(book, ((0,) * len(book[1]), (), ())), False)

    def test_rules_without_a_part_in_it(self):
        book = (3, (((0,), (1,)), ((0, 2), (0, 0)), ((1,), (0,)), ((2, 2, 2), (0, 2, 2))))
        lot, firsts, lasts = knot(book)
        self.assertTrue(own_knot(book, (lot, firsts, lasts)))
        self.assertEqual((lot[1], lot[3]), (0, 0))
        spread = ((1,), (0, 0), (1,), (0, 0, 0))
        self.assertIs(shows_knot(book, ((2, 0, 2, 0), (spread,), (spread,))), True)
        self.assertIs(shows_knot(book, ((2, 0, 2, 1), (spread,), (spread,))), False)
        self.assertIs(shows_knot(book, ((2, 2, 0), (spread,), (spread,))), False)

    def test_no_rules(self):
        for many in (1, 2, 3, 4):
            book = (many, ())
            self.assertIsNone(knot(book))
            self.assertIs(shows_knot(book, None), True)
            for value in [((), (), ()), ((), ((),), ((),)), ((0,), (), ()), (), ((),), ((1,), ((1,),), ((1,),))]:
                self.assertIs(shows_knot(book, value), False)

    def test_twelve_rules(self):
        book = (4, TWELVE)
        self.assertTrue(own_knot(book, knot(book)))
        ones = ((1,),) * 12
        self.assertIs(shows_knot(book, ((1,) * 12, (ones,), (ones,))), True)
        self.assertIs(shows_knot(book, ((1,) * 11 + (0,), (ones,), (ones,))), False)
        self.assertIs(shows_knot(book, ((1,) * 12, (ones,), (ones[:-1],))), False)
        self.assertIs(shows_knot(book, ((1,) * 12, (ones,), ())), False)

    def test_places_ahead_in_earlier_spreads(self):
        lot, firsts, lasts = SWAPS_KNOT
        both = ((1, 1), (1, 1))
        none = ((0, 0), (0, 0))
        for value in [(FIRST, SECOND), (FIRST, both), (none, FIRST, FIRST, none, SECOND), (FIRST, SECOND, both)]:
            self.assertIs(shows_knot(SWAPS, (lot, value, lasts)), True)
            self.assertIs(shows_knot(SWAPS, (lot, firsts, value)), False)
        for value in [(SECOND, FIRST), (both,), (FIRST,), (SECOND,), (both, FIRST), (both, both), (none,), ()]:
            self.assertIs(shows_knot(SWAPS, (lot, value, lasts)), False)

    def test_places_behind_in_earlier_spreads(self):
        lot, firsts, lasts = SWAPS_KNOT
        both = ((1, 1), (1, 1))
        none = ((0, 0), (0, 0))
        for value in [(SECOND, FIRST), (SECOND, both), (none, SECOND, SECOND, none, FIRST), (SECOND, FIRST, both)]:
            self.assertIs(shows_knot(SWAPS, (lot, firsts, value)), True)
            self.assertIs(shows_knot(SWAPS, (lot, value, lasts)), False)
        for value in [(FIRST, SECOND), (both,), (FIRST,), (SECOND,), (both, SECOND), (both, both), (none,), ()]:
            self.assertIs(shows_knot(SWAPS, (lot, firsts, value)), False)

    def test_three_places_need_three_spreads(self):
        book = (2, (((0, 0, 1), (1, 1, 0)), ((1, 1, 0), (0, 0, 1))))
        turns = [((1, 0, 0), (1, 0, 0)), ((0, 1, 0), (0, 1, 0)), ((0, 0, 1), (0, 0, 1))]
        for order in itertools.product(turns, repeat=3):
            for other in itertools.product(turns, repeat=3):
                right = list(order) == turns and list(other) == turns[::-1]
                self.assertIs(shows_knot(book, ((1, 1), order, other)), right)

    def test_lots(self):
        _, firsts, lasts = SWAPS_KNOT
        large = 10 ** 500
        for lot, right in [((1, 1), True), ((2, 5), True), ((large, 1), True), ((1, 0), False), ((0, 1), False),
                           ((0, 0), False), ((-1, 1), False), ((1, -1), False), ((True, 1), False), ((1, True), False),
                           ((1,), False), ((1, 1, 1), False), ((), False), ([1, 1], False), (None, False), (1, False)]:
            self.assertIs(shows_knot(SWAPS, (lot, firsts, lasts)), right, lot)
        for lot, right in [((1, 1), True), ((large, large), True), ((large, large + 1), False), ((2, 1), False)]:
            self.assertIs(shows_knot(FREE, (lot, (SPREAD,), (SPREAD,))), right, lot)

    def test_spreads(self):
        large = 10 ** 500
        for spread, right in [
                (((1,), (1,)), True), (((7,), (7,)), True), (((large,), (large,)), True), (((0,), (0,)), False),
                (((1,), (2,)), False), (((large,), (large + 1,)), False), (((-1,), (-1,)), False),
                (((True,), (True,)), False), (((1,), (True,)), False), (((1,),), False), (((1,), (1,), (1,)), False),
                (((1, 1), (1, 1)), False), (((), ()), False), ((), False), ((1, 1), False), ([(1,), (1,)], False),
                (((1,), [1]), False), (((1,), None), False), (None, False), ("11", False), (((1,), ("1",)), False),
                (((1,), ((1,),)), False), ({0: (1,), 1: (1,)}, False), (True, False), (0, False)]:
            self.assertIs(shows_knot(FREE, ((1, 1), (spread,), (SPREAD,))), right, spread)
            self.assertIs(shows_knot(FREE, ((1, 1), (SPREAD,), (spread,))), right, spread)
            self.assertIs(shows_knot(FREE, ((1, 1), (spread, SPREAD), (SPREAD,))),
                          right or spread == ((0,), (0,)), spread)

    def test_balanced_for_each_letter(self):
        book = (3, (((0,), (1,)), ((1,), (0,)), ((1,), (2,)), ((2,), (0,))))
        for numbers, right in [((1, 1, 0, 0), True), ((1, 0, 1, 1), True), ((5, 2, 3, 3), True), ((1, 1, 1, 1), False),
                               ((2, 1, 1, 0), False), ((0, 0, 1, 1), False), ((1, 2, 0, 0), False)]:
            spread = tuple((number,) for number in numbers)
            self.assertIs(own_balanced(book, spread), right)
            self.assertIs(shows_knot(book, (numbers, (spread,), (spread,))), right)

    def test_one_rule_in_several_spreads(self):
        book = (3, (((0,), (1,)), ((1,), (0,)), ((1,), (2,)), ((2,), (0,))))
        short = ((1,), (1,), (0,), (0,))
        far = ((1,), (0,), (1,), (1,))
        lot = (2, 1, 1, 1)
        self.assertIs(shows_knot(book, (lot, (short, far), (far, short))), True)
        self.assertIs(shows_knot(book, (lot, (short,), (far, short))), False)
        self.assertIs(shows_knot(book, (lot, (short, far), (far,))), False)
        self.assertIs(shows_knot(book, ((1, 1, 0, 0), (short, far), (far, short))), False)

    def test_changed_knots(self):
        wrong = 0
        for book in [book for book in BOOKS if not ends(book)][::3]:
            lot, firsts, lasts = knot(book)
            self.assertIs(shows_knot(book, ((0,) * len(lot), firsts, lasts)), False)
            self.assertIs(shows_knot(book, (lot, (), lasts)), False)
            self.assertIs(shows_knot(book, (lot, firsts, ())), False)
            for value in list(changed_integers((lot, firsts, lasts)))[::3] + [
                    (lot, firsts[::-1], lasts), (lot, firsts, lasts[::-1]), (lot, lasts, firsts),
                    (lot, firsts[1:], lasts), (lot, firsts[:-1], lasts), (lot, firsts, lasts[1:]),
                    (lot, firsts[:1], lasts), (lot, firsts + firsts, lasts), (lot, firsts, lasts + lasts)]:
                right = own_knot(book, value)
                self.assertIs(shows_knot(book, value), right, (book, value))
                wrong += not right
        self.assertGreater(wrong, 500)

    def test_odd_values(self):
        for book in (SORTS, FREE, SWAPS, (4, TWELVE)):
            for value in ODD_VALUES:
                right = ends(book) if value is None else False
                self.assertIs(shows_knot(book, value), right, value)
        for book, value in [(FREE, FREE_KNOT), (SWAPS, SWAPS_KNOT)]:
            self.assertIs(shows_knot(book, value), True)
            for other in odd_items(value):
                self.assertIs(shows_knot(book, other), own_knot(book, other), other)
                if holds_true_or_false(other):
                    self.assertIs(shows_knot(book, other), False)

    def test_too_short_and_too_long(self):
        lot, firsts, lasts = SWAPS_KNOT
        for value in [(lot, firsts), (lot,), (lot, firsts, lasts, ()), (lot, firsts, lasts, None), [lot, firsts, lasts],
                      (firsts, lasts, lot), (lot, list(firsts), lasts), (lot, firsts, list(lasts)), (lot, None, lasts),
                      (lot, firsts, None), (None, firsts, lasts), {0: lot, 1: firsts, 2: lasts}, "abc", ("", "", "")]:
            self.assertIs(shows_knot(SWAPS, value), False)


class Arguments(unittest.TestCase):

    def test_bad_books(self):
        for book, index in BAD_BOOKS:
            for function, rest in [(ends, ()), (tower, ()), (knot, ()), (shows_tower, (None,)), (shows_knot, (None,)),
                                   (shows_tower, (7,)), (shows_knot, ([],)), (shows_tower, ((("early", (0, 1)),),)),
                                   (shows_knot, (FREE_KNOT,))]:
                with self.subTest(function=function.__name__, book=book):
                    with self.assertRaises(BadBook) as caught:
                        function(book, *rest)
                    self.assertEqual(caught.exception.index, index)

    def test_no_argument_is_modified(self):
        values = ODD_VALUES + [[["early", [0, 1]]], [[1, 1], [[[1], [1]]], [[[1], [1]]]], ([1, 1], [SPREAD], [SPREAD])]
        for value in values:
            kept = copy.deepcopy(value)
            for book in (SORTS, FREE):
                shows_tower(book, value)
                shows_knot(book, value)
                self.assertEqual(value, kept)

    def test_answers_are_tuples_of_integers(self):
        def plain(value):
            return type(value) in (int, str) or type(value) is tuple and all(map(plain, value))
        for book in BOOKS[::9]:
            self.assertTrue(plain(tower(book) or ()) and plain(knot(book) or ()))
