"""To which power of the length the longest runs from words grow."""

from scatterbooks.climbs import climb, lot_for
from scatterbooks.falls import EVEN
from scatterbooks.lengths import mild_tower, shows_mild_tower
from scatterbooks.mild import mild_level, rising_spread
from scatterbooks.spreads import is_balanced, is_even_lot, is_spread


def degree(book):
    """The power of the length with which the longest runs grow, None if they grow more than all powers."""
    levels = few_slopes(book)
    if levels is None:
        return None
    return many_slopes(levels) + 1 if book[1] else 0


def few_slopes(book):
    """A mild tower with as few slopes as can be, None without any mild tower."""
    # The climb takes no slope where an even level is of use, and a slope of most use where it takes one.
    return mild_tower(book)


def shows_few_slopes(book, value):
    """Whether a value is a mild tower with as few slopes as can be, or None without any mild tower."""
    fewest = few_slopes(book)
    if fewest is None:
        return value is None
    return shows_mild_tower(book, value) and many_slopes(value) == many_slopes(fewest)


def many_slopes(levels):
    """How many of some levels are slopes."""
    return len([word for word, _ in levels if word != EVEN])


def ladder(book):
    """A ladder with as many lots as can be, None without any mild tower."""
    levels = few_slopes(book)
    if levels is None:
        return None
    lefts = climb(book, mild_level)[1]
    papers = []
    for (word, _), left in zip(levels, lefts):
        if word != EVEN:
            papers.append(lot_for(book, left))
            papers.append(rising_spread(book, left))
    return tuple(papers[:-1])


def shows_ladder(book, value):
    """Whether a value is a ladder with as many lots as can be, or None without any mild tower."""
    longest = ladder(book)
    if longest is None:
        return value is None
    if not isinstance(value, tuple) or len(value) != len(longest):
        return False
    lots, spreads = value[::2], value[1::2]
    if not all(is_even_lot(lot, book) for lot in lots):
        return False
    if not all(is_spread(spread, book[1]) and is_balanced(spread, book) for spread in spreads):
        return False
    return all([is_rung(lots[at], spread, lots[at + 1]) for at, spread in enumerate(spreads)])


def is_rung(lot, spread, higher):
    """Whether a spread's numbers do not fall, and are 0 outside of a lot and above 0 and rising in a higher one."""
    for number, item, more in zip(lot, spread, higher):
        # A rule outside of the lot cannot be in the higher one either, as its numbers are 0 then.
        if number == 0 and any(item):
            return False
        pairs = list(zip(item, item[1:]))
        if any([before > place for before, place in pairs]):
            return False
        if more > 0 and (item[0] == 0 or any([before == place for before, place in pairs])):
            return False
    return True
