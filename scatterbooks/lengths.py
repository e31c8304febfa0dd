"""How the longest runs from words grow with the length of the words."""

from scatterbooks.checks import check_book
from scatterbooks.climbs import climb, even_sides, lot_for
from scatterbooks.falls import EVEN, decides_all, is_weights, level_number, mild_sums
from scatterbooks.mild import mild_level, opposite_spread, rising_spread
from scatterbooks.spreads import is_balanced, is_even_lot, is_spread
from scatterbooks.towers import ends

LINEAR = "linear"
POLYNOMIAL = "polynomial"
GREATER = "greater"
ENDLESS = "endless"


def growth(book):
    """How much the longest runs from words of a length may grow with the length, as one of four words."""
    if even_weights(book) is not None:
        return LINEAR
    if mild_tower(book) is not None:
        return POLYNOMIAL
    return GREATER if ends(book) else ENDLESS


def even_weights(book):
    """Weights with which each rule falls in all, None without any."""
    check_book(book)
    weights, numbers = even_sides(book[0], book[1])
    return None if any(numbers) else tuple(weights)


def shows_even_weights(book, value):
    """Whether a value is even weights of a book, or None for a book without any."""
    check_book(book)
    many, rules = book
    if value is None:
        return even_weights(book) is None
    return is_weights(value, many) and all(level_number((EVEN, value), rule) > 0 for rule in rules)


def even_lot(book):
    """An even lot of a book, None without any."""
    check_book(book)
    lot = lot_for(book, book[1])
    return lot if any(lot) else None


def shows_even_lot(book, value):
    """Whether a value is an even lot of a book, or None for a book without any."""
    check_book(book)
    if value is None:
        return even_lot(book) is None
    return is_even_lot(value, book)


def mild_tower(book):
    """A mild tower of a book, None without any."""
    check_book(book)
    levels, lefts = climb(book, mild_level)
    return None if lefts[-1] else tuple(levels)


def shows_mild_tower(book, value):
    """Whether a value is a mild tower of a book, or None for a book without any."""
    check_book(book)
    if value is None:
        return mild_tower(book) is None
    return decides_all(value, book, mild_sums)


def swell(book):
    """A swell of a book, None without any."""
    check_book(book)
    left = climb(book, mild_level)[1][-1]
    if not left:
        return None
    lot = lot_for(book, left)
    less = rising_spread(book, left)
    return lot, opposite_spread(lot, less), less


def shows_swell(book, value):
    """Whether a value is a swell of a book, or None for a book without any."""
    check_book(book)
    if value is None:
        return swell(book) is None
    if not isinstance(value, tuple) or len(value) != 3:
        return False
    lot, more, less = value
    if not is_even_lot(lot, book) or not is_spread(more, book[1]) or not is_spread(less, book[1]):
        return False
    backward = [item[::-1] for item in more]
    return is_balanced(more, book) and is_balanced(less, book) and all_rise(lot, backward) and all_rise(lot, less)


def all_rise(lot, spread):
    """Whether a spread has numbers above 0 that rise strictly for the rules in a lot, and 0 for all others."""
    return all([rises(item) if number > 0 else not any(item) for number, item in zip(lot, spread)])


def rises(item):
    """Whether numbers are above 0 and rise strictly from place to place."""
    return all([number > before for before, number in zip((0,) + item, item)])
