"""Whether runs end from all words: towers show that they do, knots that they do not."""

from scatterbooks.checks import check_book
from scatterbooks.climbs import climb, early_sides, even_sides, late_sides
from scatterbooks.falls import is_level, level_number
from scatterbooks.spreads import backward_spread, is_even_lot, is_spreads


def ends(book):
    """Whether from no word, of any length, a run goes on for ever."""
    check_book(book)
    return not climb(book)[1]


def tower(book):
    """A tower of a book, None without any."""
    check_book(book)
    levels, left = climb(book)
    return None if left else tuple(levels)


def shows_tower(book, value):
    """Whether a value is a tower of a book, or None for a book without any."""
    check_book(book)
    if value is None:
        return not ends(book)
    if not isinstance(value, tuple) or not all(is_level(level, book[0]) for level in value):
        return False
    left = list(book[1])
    for level in value:
        numbers = [level_number(level, rule) for rule in left]
        if min(numbers, default=0) < 0:
            return False
        left = [rule for rule, number in zip(left, numbers) if number == 0]
    return not left


def knot(book):
    """A knot of a book, None without any."""
    check_book(book)
    many, rules = book
    left = climb(book)[1]
    if not left:
        return None
    zeros = [(0,) * len(rule[0]) for rule in rules]
    lot = for_all(rules, left, even_sides(many, left)[1], [0] * len(rules))
    firsts = [for_all(rules, left, spread, zeros) for spread in early_sides(many, left)[1]]
    lasts = [for_all(rules, left, spread, zeros) for spread in late_sides(many, left)[1]]
    return lot, tuple(firsts), tuple(lasts)


def for_all(rules, left, items, zeros):
    """The tuple of an item for each rule: of items for those that are left, of zeros for the others."""
    known = dict(zip(left, items))
    return tuple([known.get(rule, zero) for rule, zero in zip(rules, zeros)])


def shows_knot(book, value):
    """Whether a value is a knot of a book, or None for a book without any."""
    check_book(book)
    if value is None:
        return ends(book)
    if not isinstance(value, tuple) or len(value) != 3:
        return False
    lot, firsts, lasts = value
    if not is_even_lot(lot, book) or not is_spreads(firsts, book) or not is_spreads(lasts, book):
        return False
    whole = [(index, at) for index, rule in enumerate(book[1]) if lot[index] > 0 for at in range(len(rule[0]))]
    backward = [backward_spread(spread) for spread in lasts]
    return places_in_turn(firsts) == whole and places_in_turn(backward) == whole


def places_in_turn(spreads):
    """The ascending list of the places with a number above 0 in some spread, as (index of the rule, place).

    None if one of them, not a first place, has none ahead of it in an earlier spread.
    """
    seen = set()
    for spread in spreads:
        places = [(index, at) for index, item in enumerate(spread) for at in range(len(item)) if item[at] > 0]
        for index, at in places:
            if at > 0 and (index, at - 1) not in seen:
                return None
        for place in places:
            seen.add(place)
    return sorted(seen)
