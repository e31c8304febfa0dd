"""Tests of the values that callers pass."""

from scatterbooks.errors import BadBook, BadWord

MOST_LETTERS = 4
MOST_RULES = 12
LONGEST_SIDE = 3


def check_book(book):
    """Raise BadBook for a value that is no book."""
    if not is_frame(book):
        raise BadBook(None)
    many, rules = book
    for index, rule in enumerate(rules):
        if not is_rule(rule, many):
            raise BadBook(index)
        # The rule before has passed, so the two can be compared.
        if index > 0 and rule <= rules[index - 1]:
            raise BadBook(index)


def check_word(word, many, most):
    """Raise BadWord for a value that is no word of at most so many items on so many letters."""
    if not isinstance(word, tuple) or len(word) > most:
        raise BadWord(None)
    for index, item in enumerate(word):
        if not is_letter(item, many):
            raise BadWord(index)


def is_frame(value):
    """Whether a value is a pair of a number of letters and a short tuple."""
    if not isinstance(value, tuple) or len(value) != 2:
        return False
    many, rules = value
    if not is_whole(many) or not 1 <= many <= MOST_LETTERS:
        return False
    return isinstance(rules, tuple) and len(rules) <= MOST_RULES


def is_rule(value, many):
    """Whether a value is a rule on so many letters."""
    if not isinstance(value, tuple) or len(value) != 2:
        return False
    left, right = value
    if not is_side(left, many) or not is_side(right, many):
        return False
    return len(left) == len(right) and left != right


def is_side(value, many):
    """Whether a value can be a side of a rule on so many letters."""
    if not isinstance(value, tuple) or not 1 <= len(value) <= LONGEST_SIDE:
        return False
    return all(is_letter(item, many) for item in value)


def is_letter(value, many):
    """Whether a value is one of so many letters."""
    return is_whole(value) and 0 <= value < many


def is_whole(value):
    """Whether a value is an integer; True and False are none here."""
    return isinstance(value, int) and not isinstance(value, bool)
