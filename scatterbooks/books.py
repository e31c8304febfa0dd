"""Books made from other books."""

from scatterbooks.checks import MOST_RULES, check_book, is_letter
from scatterbooks.errors import BadOrder, TooMany


def renamed(book, order):
    """The book in which the letter order[k] stands for each letter k."""
    check_book(book)
    many, rules = book
    if not is_order(order, many):
        raise BadOrder("not a tuple of all letters, each once")
    changed = [(renamed_side(left, order), renamed_side(right, order)) for left, right in rules]
    return (many, tuple(sorted(changed)))


def mirrored(book):
    """The book with both sides of all rules read backward."""
    check_book(book)
    many, rules = book
    changed = [(left[::-1], right[::-1]) for left, right in rules]
    return (many, tuple(sorted(changed)))


def joined(book, other):
    """The book with the rules of both books, each once."""
    check_book(book)
    check_book(other)
    rules = sorted(set(book[1] + other[1]))
    if len(rules) > MOST_RULES:
        raise TooMany(MOST_RULES)
    return (max(book[0], other[0]), tuple(rules))


def is_order(value, many):
    """Whether a value is a tuple of all of so many letters, each once."""
    if not isinstance(value, tuple) or len(value) != many:
        return False
    return all(is_letter(item, many) for item in value) and len(set(value)) == many


def renamed_side(side, order):
    """A side of a rule with order[k] for each letter k."""
    return tuple(order[letter] for letter in side)
