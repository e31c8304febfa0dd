"""Books as texts."""

from scatterbooks.checks import LONGEST_SIDE, MOST_LETTERS, MOST_RULES, check_book
from scatterbooks.errors import InvalidText, NotText

# Python counts other alphabets' digits as digits too; here only these are.
DIGITS = "0123456789"


def write_book(book):
    """The text of a book, as in "3: 01>11 2>0"."""
    check_book(book)
    many, rules = book
    return " ".join([f"{many}:"] + [write_rule(rule) for rule in rules])


def write_rule(rule):
    """The text of a rule, as in "01>11"."""
    left, right = rule
    return write_side(left) + ">" + write_side(right)


def write_side(side):
    """The letters of a side of a rule as digits."""
    return "".join([str(letter) for letter in side])


def read_book(text):
    """The book that a text names."""
    if not isinstance(text, str):
        raise NotText("not a string")
    many, at = read_many(text)
    at = skip_spaces(text, at)
    rules = []
    while at < len(text):
        rule, end = read_rule(text, at, many)
        if len(rules) == MOST_RULES or (rules and rule <= rules[-1]):
            raise InvalidText(at)
        rules.append(rule)
        at = next_rule(text, end)
    return (many, tuple(rules))


def read_many(text):
    """The number of letters, and the place behind its colon."""
    at = skip_spaces(text, 0)
    many = digit_at(text, at)
    if not 1 <= many <= MOST_LETTERS:
        raise InvalidText(at)
    if text[at + 1:at + 2] != ":":
        raise InvalidText(at + 1)
    return many, at + 2


def read_rule(text, at, many):
    """The rule that stands at a place, and the place behind it."""
    left = read_letters(text, at, many, LONGEST_SIDE)
    sign = at + len(left)
    if not left or text[sign:sign + 1] != ">":
        raise InvalidText(sign)
    right = read_letters(text, sign + 1, many, len(left))
    end = sign + 1 + len(right)
    if len(right) < len(left):
        raise InvalidText(end)
    if left == right:
        raise InvalidText(end - 1)
    return (left, right), end


def read_letters(text, at, many, most):
    """The letters that stand from a place on, the first so many of them."""
    letters = []
    while len(letters) < most:
        letter = digit_at(text, at + len(letters))
        if not 0 <= letter < many:
            break
        letters.append(letter)
    return tuple(letters)


def next_rule(text, at):
    """The place of the rule behind the one that ends at a place."""
    if at < len(text) and text[at] != " ":
        raise InvalidText(at)
    return skip_spaces(text, at)


def skip_spaces(text, at):
    """The first place from a place on where no space stands."""
    while at < len(text) and text[at] == " ":
        at += 1
    return at


def digit_at(text, at):
    """The digit that stands at a place, -1 without one."""
    if at == len(text):
        return -1
    return DIGITS.find(text[at])
