import copy
import unittest

from own import own_come, own_longest, own_rests, own_steps
from scatterbooks import walks
from scatterbooks.errors import BadBook, BadWord, NotEnding, TooMany
from scatterbooks.walks import all_come, goes_on, longest, steps, walked_rests
from values import BAD_BOOKS, BAD_WORDS, FREE, MEET, ODD_VALUES, SORTS, TWELVE, all_words, many_books, short_words

WALKING = (all_come, walked_rests, goes_on, longest)
ALL = (steps,) + WALKING

# From each of these words just 1500 words come; from the last one's some run goes on for ever.
JUST = [
    ((3, (((0,), (1,)), ((2, 1), (0, 2)), ((2, 2), (1, 0)))), (2, 1, 0, 2, 0, 1, 0, 0)),
    ((3, (((1, 1), (1, 0)), ((2,), (1,)), ((2, 0), (1, 2)))), (2, 1, 0, 2, 0, 2, 1, 2)),
    ((3, (((0, 0, 1), (1, 0, 0)), ((0, 2, 0), (2, 0, 1)), ((1, 1), (2, 0)))), (1, 0, 0, 0, 0, 1, 2, 0)),
]
JUST_ENDLESS = ((3, (((0,), (1,)), ((1, 1), (0, 1)), ((2,), (1,)), ((2, 2, 1), (1, 2, 2)))), (1, 0, 2, 2, 1, 2, 0, 2))

# From each of these words 1501 words come; from the last one's some run goes on for ever.
MORE = [
    ((4, (((0, 3), (1, 0)), ((0, 3), (2, 1)), ((1,), (2,)))), (0, 3, 2, 0, 3, 3, 0, 3)),
    ((3, (((0, 2), (0, 0)), ((1, 1), (0, 0)), ((2, 0), (1, 2)))), (2, 0, 0, 1, 2, 0, 1, 2)),
]
MORE_ENDLESS = ((3, (((0,), (2,)), ((0, 1), (2, 2)), ((1, 2, 1), (2, 2, 0)), ((2, 0), (1, 1)))),
                (0, 0, 0, 1, 0, 2, 1, 2))

SAMPLE = many_books()[::23]


class Examples(unittest.TestCase):

    def test_examples(self):
        self.assertEqual(
            [steps(SORTS, (1, 0, 0)), all_come(SORTS, (1, 0, 0)), walked_rests(SORTS, (1, 1, 0)),
             goes_on(SORTS, (1, 0)), longest(SORTS, (1, 1, 0, 0))],
            [((0, 0, 1), (0, 1, 0)), [(0, 0, 1), (0, 1, 0), (1, 0, 0)], [(0, 1, 1)], False, 4])
        with self.assertRaises(NotEnding):
            longest(FREE, (0,))

    def test_functions_stand_in_the_file(self):
        for function in ALL:
            self.assertEqual(function.__module__, walks.__name__)


class Steps(unittest.TestCase):

    def test_places_anywhere_one_behind_another(self):
        self.assertEqual(steps((3, (((0, 2), (1, 1)),)), (0, 1, 2)), ((1, 1, 1),))
        self.assertEqual(steps((3, (((0, 2), (1, 1)),)), (2, 1, 0)), ())
        self.assertEqual(steps((2, (((0, 1, 0), (1, 1, 1)),)), (0, 1, 1, 0)), ((1, 1, 1, 1),))

    def test_each_once_and_ascending(self):
        book = (2, (((0,), (1,)), ((0, 0), (0, 1)), ((0, 1), (1, 1))))
        self.assertEqual(steps(book, (0, 0, 1)), ((0, 1, 1), (1, 0, 1)))
        self.assertEqual(steps(MEET, (1, 1, 1)), ((0, 1, 1), (1, 0, 1), (1, 1, 0)))

    def test_one_place_is_used_once(self):
        self.assertEqual(steps((2, (((0, 0), (1, 1)),)), (0,)), ())
        self.assertEqual(steps((2, (((0, 0), (1, 1)),)), (0, 0)), ((1, 1),))

    def test_word_of_no_letters(self):
        for book in (SORTS, FREE, (1, ()), (4, TWELVE)):
            self.assertEqual(steps(book, ()), ())

    def test_words_of_eight_letters(self):
        self.assertEqual(steps(FREE, (0,) * 8), tuple((0,) * (7 - at) + (1,) + (0,) * at for at in range(8)))
        word = (3, 0, 2, 1, 1, 0, 3, 2)
        self.assertEqual(steps((4, TWELVE), word), tuple(sorted(own_steps(TWELVE, word))))

    def test_no_rules(self):
        self.assertEqual(steps((3, ()), (0, 1, 2)), ())

    def test_many_books_and_words(self):
        for many, rules in many_books()[::7]:
            for word in all_words(many, 5 if many < 4 else 4)[::5]:
                found = steps((many, rules), word)
                self.assertIs(type(found), tuple)
                self.assertEqual(found, tuple(sorted(own_steps(rules, word))))

    def test_more_words_than_1500_behind_many_steps_are_no_error(self):
        for book, word in MORE + [MORE_ENDLESS]:
            self.assertEqual(steps(book, word), tuple(sorted(own_steps(book[1], word))))


class Walking(unittest.TestCase):

    def test_word_of_no_letters(self):
        for book in (SORTS, FREE, (1, ()), (4, TWELVE)):
            self.assertEqual([function(book, ()) for function in WALKING], [[()], [()], False, 0])

    def test_no_rules(self):
        word = (0, 1, 2, 3, 3, 2, 1, 0)
        self.assertEqual([function((4, ()), word) for function in WALKING], [[word], [word], False, 0])

    def test_one_letter(self):
        self.assertEqual([function((1, ()), (0, 0)) for function in WALKING], [[(0, 0)], [(0, 0)], False, 0])

    def test_eight_letters(self):
        word = (1, 1, 1, 1, 0, 0, 0, 0)
        self.assertEqual(len(all_come(SORTS, word)), 70)
        self.assertEqual(walked_rests(SORTS, word), [word[::-1]])
        self.assertFalse(goes_on(SORTS, word))
        self.assertEqual(longest(SORTS, word), 16)
        self.assertEqual(all_come(FREE, (0,) * 8), all_words(2, 8))
        self.assertEqual(walked_rests(FREE, (0,) * 8), [])
        self.assertTrue(goes_on(FREE, (0,) * 8))

    def test_run_that_goes_on_beside_rests(self):
        book = (3, (((0,), (1,)), ((0,), (2,)), ((1,), (0,))))
        self.assertEqual(all_come(book, (0,)), [(0,), (1,), (2,)])
        self.assertEqual(walked_rests(book, (0,)), [(2,)])
        self.assertTrue(goes_on(book, (0,)))
        self.assertFalse(goes_on(book, (2,)))
        self.assertEqual(longest(book, (2, 2)), 0)

    def test_run_that_goes_on_behind_some_steps(self):
        book = (4, (((0,), (1,)), ((1,), (2,)), ((2,), (1,))))
        self.assertTrue(goes_on(book, (0,)))
        self.assertEqual(walked_rests(book, (0, 3)), [])
        with self.assertRaises(NotEnding):
            longest(book, (3, 0))

    def test_longest_takes_the_longest_run(self):
        book = (3, (((0,), (1,)), ((0,), (2,)), ((1,), (2,))))
        self.assertEqual(longest(book, (0,)), 2)
        self.assertEqual(longest(book, (0, 0, 1)), 5)

    def test_many_books_and_words(self):
        for many, rules in SAMPLE:
            for word in short_words(many, 4 if many < 4 else 3)[::3]:
                known = own_come(rules, word)
                self.assertEqual(all_come((many, rules), word), sorted(known))
                self.assertEqual(walked_rests((many, rules), word), own_rests(rules, word))
                most = own_longest(rules, word)
                self.assertIs(goes_on((many, rules), word), most is None)
                if most is None:
                    with self.assertRaises(NotEnding):
                        longest((many, rules), word)
                else:
                    self.assertEqual(longest((many, rules), word), most)

    def test_lists_are_new(self):
        for function in (all_come, walked_rests):
            first = function(SORTS, (1, 0, 0))
            self.assertIs(type(first), list)
            kept = list(first)
            first.append(None)
            self.assertEqual(function(SORTS, (1, 0, 0)), kept)


class Limit(unittest.TestCase):

    def test_just_1500_words(self):
        for book, word in JUST:
            known = own_come(book[1], word)
            self.assertEqual(len(known), 1500)
            self.assertEqual(all_come(book, word), sorted(known))
            self.assertEqual(walked_rests(book, word), own_rests(book[1], word))
            self.assertFalse(goes_on(book, word))
            self.assertEqual(longest(book, word), own_longest(book[1], word))

    def test_just_1500_words_and_a_run_that_goes_on(self):
        book, word = JUST_ENDLESS
        self.assertEqual(len(all_come(book, word)), 1500)
        self.assertTrue(goes_on(book, word))
        with self.assertRaises(NotEnding):
            longest(book, word)

    def test_more_than_1500_words(self):
        # With all changes of single letters, all words of a length come.
        for book, word in MORE + [MORE_ENDLESS, ((4, TWELVE), (0,) * 8), ((4, TWELVE), (0, 1, 2, 3, 0, 1))]:
            for function in WALKING:
                with self.subTest(function=function.__name__, word=word):
                    with self.assertRaises(TooMany) as caught:
                        function(book, word)
                    self.assertEqual(caught.exception.most, 1500)

    def test_one_word_more_than_1500(self):
        for book, word in MORE + [MORE_ENDLESS]:
            self.assertEqual(len(own_come(book[1], word)), 1501)


class Errors(unittest.TestCase):

    def test_bad_books(self):
        for book, index in BAD_BOOKS:
            for function in ALL:
                for word in [(), (0, 1), (0,) * 9, (7,), None]:
                    with self.subTest(function=function.__name__, book=book, word=word):
                        with self.assertRaises(BadBook) as caught:
                            function(book, word)
                        self.assertEqual(caught.exception.index, index)

    def test_bad_words(self):
        for word, index in BAD_WORDS:
            for function in ALL:
                for book in (SORTS, FREE, (2, ())):
                    with self.subTest(function=function.__name__, book=book, word=word):
                        with self.assertRaises(BadWord) as caught:
                            function(book, word)
                        self.assertEqual(caught.exception.index, index)

    def test_words_of_nine_letters(self):
        for word in [(0,) * 9, (0,) * 8 + (2,), (7,) * 9, (None,) * 9, (0,) * 40]:
            for function in ALL:
                for book in (SORTS, FREE, (1, ())):
                    with self.assertRaises(BadWord) as caught:
                        function(book, word)
                    self.assertIsNone(caught.exception.index)

    def test_letters_of_other_books(self):
        for many in (1, 2, 3, 4):
            self.assertEqual(steps((many, ()), (many - 1,)), ())
            for function in ALL:
                with self.assertRaises(BadWord) as caught:
                    function((many, ()), (0, many, many))
                self.assertEqual(caught.exception.index, 1)

    def test_bad_word_comes_ahead_of_the_others(self):
        for function in WALKING:
            for word, index in [((0,) * 7 + (4,), 7), ((0,) * 9, None), ([0], None)]:
                with self.assertRaises(BadWord) as caught:
                    function((4, TWELVE), word)
                self.assertEqual(caught.exception.index, index)

    def test_no_argument_is_modified(self):
        for value in ODD_VALUES:
            kept = copy.deepcopy(value)
            for function in ALL:
                for given in [(value, (0, 1)), (SORTS, value)]:
                    try:
                        function(*given)
                    except (BadBook, BadWord):
                        pass
                    self.assertEqual(value, kept)
