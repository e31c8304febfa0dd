import itertools
import unittest

from scatterbooks import booktext
from scatterbooks.booktext import read_book, write_book
from scatterbooks.errors import BadBook, InvalidText, NotText
from values import NO_FRAMES, NO_RULES, ODD_VALUES, SORTS, TWELVE, every_rule, many_books

TWELVE_TEXT = "4: 0>1 0>2 0>3 1>0 1>2 1>3 2>0 2>1 2>3 3>0 3>1 3>2"

# No ASCII digits or spaces, though Python counts most of them as such.
STRANGE = ["\t", "\n", "\r", "\v", "\f", "\x1c", "\x85", "\xa0", "\u2003", "\u2028", "\u3000", "\ufeff", "\u200b",
           "\xb2", "\xb9", "\u0660", "\u0661", "\u0967", "\u2081", "\uff11", "\uff10", "\U0001d7ce", "\U0001d7cf",
           "\uff1a", "\uff1e", "\x00", "\ud800", "a", "-", "+", "_", ".", "<", "=", ",", ";", "(", "\"", "4", "9"]


class Examples(unittest.TestCase):

    def test_examples(self):
        self.assertEqual(
            [write_book((2, (((1, 0), (0, 1)),))), read_book(" 3: 01>11  2>0 "), write_book((2, ()))],
            ["2: 10>01", (3, (((0, 1), (1, 1)), ((2,), (0,)))), "2:"])
        with self.assertRaises(InvalidText) as caught:
            read_book("2: 01>01")
        self.assertEqual(caught.exception.place, 7)

    def test_functions_stand_in_the_file(self):
        for function in (read_book, write_book):
            self.assertEqual(function.__module__, booktext.__name__)


class Write(unittest.TestCase):

    def test_ordinary(self):
        self.assertEqual(write_book((3, (((0, 1), (1, 1)), ((2,), (0,))))), "3: 01>11 2>0")
        self.assertEqual(write_book((4, (((0, 1, 2), (3, 3, 3)),))), "4: 012>333")

    def test_no_rules(self):
        self.assertEqual([write_book((many, ())) for many in (1, 2, 3, 4)], ["1:", "2:", "3:", "4:"])

    def test_twelve_rules(self):
        self.assertEqual(write_book((4, TWELVE)), TWELVE_TEXT)

    def test_bad_books(self):
        bad = [(book, None) for book in NO_FRAMES + ODD_VALUES]
        bad += [((2, (item,)), 0) for item in NO_RULES]
        bad += [((2, (((0,), (1,)), item)), 1) for item in NO_RULES + [((0,), (1,))]]
        bad += [((2, (((0, 1), (1, 1)), ((0,), (1,)))), 1)]
        for book, index in bad:
            with self.subTest(book=book):
                with self.assertRaises(BadBook) as caught:
                    write_book(book)
                self.assertEqual(caught.exception.index, index)


class ReadGoodTexts(unittest.TestCase):

    def test_many_books_there_and_back(self):
        for book in many_books():
            self.assertEqual(read_book(write_book(book)), book)

    def test_answers_are_tuples(self):
        many, rules = read_book("2: 10>01")
        self.assertIs(type(many), int)
        self.assertEqual(repr((many, rules)), "(2, (((1, 0), (0, 1)),))")

    def test_spaces_at_both_ends(self):
        for ahead, behind in itertools.product(["", " ", "    "], repeat=2):
            self.assertEqual(read_book(ahead + "2: 10>01" + behind), SORTS)
            self.assertEqual(read_book(ahead + "2:" + behind), (2, ()))
            self.assertEqual(read_book(ahead + "1:" + behind), (1, ()))

    def test_spaces_ahead_of_rules(self):
        book = (3, (((0, 1), (1, 1)), ((2,), (0,)), ((2,), (1,))))
        for first, second, third in itertools.product(["", " ", "     "], [" ", "   "], [" ", "    "]):
            text = "3:" + first + "01>11" + second + "2>0" + third + "2>1"
            self.assertEqual(read_book(text), book)

    def test_twelve_rules(self):
        self.assertEqual(read_book(TWELVE_TEXT), (4, TWELVE))
        self.assertEqual(read_book(TWELVE_TEXT + "  "), (4, TWELVE))


class ReadBadTexts(unittest.TestCase):

    def assert_place(self, text, place):
        with self.subTest(text=text):
            with self.assertRaises(InvalidText) as caught:
                read_book(text)
            self.assertEqual(caught.exception.place, place)
            self.assertIs(type(caught.exception.place), int)

    def test_no_text(self):
        for value in ODD_VALUES + [SORTS, ["2:"], ("2:",), {"2:": "2:"}, b"2:"]:
            with self.subTest(value=value), self.assertRaises(NotText):
                read_book(value)

    def test_empty_and_spaces_alone(self):
        for size in range(5):
            self.assert_place(" " * size, size)

    def test_number_of_letters(self):
        for sign in "056789:>x-":
            self.assert_place(sign + ":", 0)
            self.assert_place("  " + sign + ": 0>1", 2)
        self.assert_place("12:", 1)
        self.assert_place("02:", 0)
        self.assert_place(" 22: 0>1", 2)

    def test_colon(self):
        for text in ["2", "  2"]:
            self.assert_place(text, len(text))
        self.assert_place("2 :", 1)
        self.assert_place("2 ", 1)
        self.assert_place("2>", 1)
        self.assert_place("2 0>1", 1)
        self.assert_place("2::", 2)
        self.assert_place("2: :", 3)

    def test_digit_that_names_no_letter(self):
        for many in (1, 2, 3, 4):
            for digit in range(many, 10):
                self.assert_place(f"{many}: {digit}>0", 3)
                self.assert_place(f"{many}:{digit}>0", 2)
                self.assert_place(f"{many}: 0{digit}>00", 4)
                self.assert_place(f"{many}: 00{digit}>000", 5)
                self.assert_place(f"{many}: 0>{digit}", 5)
                self.assert_place(f"{many}: 00>0{digit}", 7)
                self.assert_place(f"{many}: 000>00{digit}", 9)

    def test_one_letter_takes_no_rule(self):
        self.assert_place("1: 0>0", 5)
        self.assert_place("1: 00>00", 7)
        self.assert_place("1: 0>1", 5)

    def test_fourth_letter_of_left(self):
        for digit in "0123456789":
            self.assert_place(f"4: 012{digit}>0123", 6)
            self.assert_place(f"4: 012{digit}", 6)
            self.assert_place(f"4: 0>1 012{digit}>0123", 10)

    def test_empty_left(self):
        self.assert_place("2: >1", 3)
        self.assert_place("2:>1", 2)
        self.assert_place("2: >", 3)
        self.assert_place("2: 0>1 >1", 7)

    def test_right_too_short(self):
        self.assert_place("2: 0> ", 5)
        self.assert_place("2: 0> 1", 5)
        self.assert_place("2: 00>1 1>0", 7)
        self.assert_place("2: 000>11 ", 9)
        self.assert_place("2: 00>1>", 7)
        self.assert_place("2: 0>>1", 5)

    def test_right_too_long(self):
        self.assert_place("2: 0>10", 6)
        self.assert_place("2: 00>110", 8)
        self.assert_place("2: 000>1110", 10)
        self.assert_place("2: 0>1>", 6)
        self.assert_place("2: 0>11>0", 6)

    def test_rule_that_changes_nothing(self):
        self.assert_place("2: 0>0", 5)
        self.assert_place("2: 01>01", 7)
        self.assert_place("2: 101>101", 9)
        self.assert_place("2:0>0 1>0", 4)
        self.assert_place("2: 0>1 00>00 1>0", 11)
        self.assert_place("2: 01>011", 7)
        self.assert_place("2: 01>0", 7)

    def test_spaces_where_none_may_stand(self):
        self.assert_place("2: 0 >1", 4)
        self.assert_place("2: 0 0>11", 4)
        self.assert_place("2: 0> 1", 5)
        self.assert_place("2: 00>1 1", 7)
        self.assert_place(" 2 : 0>1", 2)

    def test_no_space_between_rules(self):
        self.assert_place("2: 0>11>0", 6)
        self.assert_place("2: 0>1,1>0", 6)

    def test_rule_not_greater(self):
        self.assert_place("2: 0>1 0>1", 7)
        self.assert_place("2: 1>0 0>1", 7)
        self.assert_place("2:1>0   0>1  ", 8)
        self.assert_place("3: 0>2 0>1 2>0", 7)
        self.assert_place("2: 00>01 0>1", 9)
        self.assert_place("2: 0>1 00>01 00>01", 13)
        self.assert_place("2: 0>1 1>0 00>01", 11)

    def test_rule_not_greater_and_wrong_besides(self):
        self.assert_place("2: 1>0 0>2", 9)
        self.assert_place("2: 1>0 0>0", 9)
        self.assert_place("2: 1>0 0", 8)
        self.assert_place("2: 1>0 0>", 9)
        self.assert_place("2: 1>0 00>1", 11)
        self.assert_place("2: 1>0 00>1 ", 11)
        self.assert_place("2: 1>0 0x", 8)

    def test_whole_rule_not_greater_ahead_of_what_stands_behind_it(self):
        self.assert_place("2: 1>0 0>1x", 7)
        self.assert_place("2: 1>0 0>11", 7)
        self.assert_place("2: 1>0 0>1 x", 7)

    def test_thirteenth_rule(self):
        start = len(TWELVE_TEXT) + 1
        self.assert_place(TWELVE_TEXT + " 33>32", start)
        self.assert_place(TWELVE_TEXT + "   33>32 x", start + 2)
        self.assert_place(TWELVE_TEXT + " 0>1", start)
        self.assert_place(TWELVE_TEXT + " 33>32 33>33", start)

    def test_thirteenth_rule_that_is_none_else(self):
        start = len(TWELVE_TEXT) + 1
        self.assert_place(TWELVE_TEXT + " 33>33", start + 4)
        self.assert_place(TWELVE_TEXT + " 33>3", start + 4)
        self.assert_place(TWELVE_TEXT + " 33>34", start + 4)
        self.assert_place(TWELVE_TEXT + " 333", start + 3)
        self.assert_place(TWELVE_TEXT + " 3333", start + 3)
        self.assert_place(TWELVE_TEXT + " x", start)
        self.assert_place(TWELVE_TEXT + "x", start - 1)

    def test_text_that_ends_too_soon(self):
        for text in ["", " ", "2", " 2", "2: 0", "2:0", "2: 00", "2: 000", "2: 0>", "2: 00>", "2: 000>", "2: 00>1",
                     "2: 000>1", "2: 000>11", "2: 0>1 0", "2: 0>1 1>", "2: 0>1  10>0"]:
            self.assert_place(text, len(text))

    def test_every_start_of_a_text(self):
        text = "  4:  012>333 13>31  2>0 "
        whole = [4, 5, 6, 13, 14, 19, 20, 21, 24, 25]
        for size in range(len(text) + 1):
            if size in whole:
                self.assertEqual(read_book(text[:size])[0], 4)
            else:
                self.assert_place(text[:size], size)

    def test_strange_characters(self):
        text = "3: 01>11 2>0"
        for sign in STRANGE:
            for place in range(len(text) + 1):
                self.assert_place(text[:place] + sign + text[place:], self.stranger_place(text, sign, place))
            for place in range(len(text)):
                if (sign, place) != ("4", 0):
                    self.assert_place(text[:place] + sign + text[place + 1:], place)

    def stranger_place(self, text, sign, place):
        """Where a text breaks into which a sign was put: only "4:" can start."""
        return 1 if (sign, place) == ("4", 0) else place

    def test_line_feeds_at_the_ends(self):
        self.assert_place("2:\n", 2)
        self.assert_place("2: 0>1\n", 6)
        self.assert_place("\n2:", 0)
        self.assert_place("2:\t0>1", 2)
        self.assert_place("2: 0>1\t1>0", 6)


class EveryStep(unittest.TestCase):
    """Texts of at most one rule, with each way to leave a good one."""

    def good_texts(self):
        rules = every_rule(2, (1, 2, 3))
        words = ["".join(map(str, left)) + ">" + "".join(map(str, right)) for left, right in rules]
        for ahead, between, behind in itertools.product(["", " "], ["", " ", "  "], ["", " "]):
            yield ahead + "2:" + between
            for word in words:
                yield ahead + "2:" + between + word + behind

    def test_first_character_that_cannot_stand(self):
        good = set(self.good_texts())
        starts = {text[:size] for text in good for size in range(len(text) + 1)}
        for start in starts:
            if start not in good:
                self.check(start, len(start))
            for sign in "0123>:x ":
                # More spaces than the good texts here have may stand, too, as may other numbers and a second rule.
                spaces = sign == " " and (start == "" or start[-1] in " :" or start in good)
                number = start.strip() == "" and sign in "13"
                second = start.endswith(" ") and ">" in start
                if start + sign in starts or spaces or number or second:
                    continue
                for rest in ["", " ", "0", "1>0", " x"]:
                    self.check(start + sign + rest, len(start))

    def check(self, text, place):
        with self.assertRaises(InvalidText, msg=text) as caught:
            read_book(text)
        self.assertEqual(caught.exception.place, place, text)
