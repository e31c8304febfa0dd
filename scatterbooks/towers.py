"""Whether runs end from all words: towers show that they do, knots that they do not."""

from scatterbooks.checks import check_book
from scatterbooks.climbs import climb, early_sides, late_sides, lot_for, spread_for, useful_level
from scatterbooks.falls import decides_all, tower_sums
from scatterbooks.spreads import backward_spread, is_even_lot, is_spreads


def ends(book):
    """Whether from no word, of any length, a run goes on for ever."""
    return tower(book) is not None


def tower(book):
    """A tower of a book, None without any."""
    check_book(book)
    levels, lefts = climb(book, useful_level)
    return None if lefts[-1] else tuple(levels)


def shows_tower(book, value):
    """Whether a value is a tower of a book, or None for a book without any."""
    check_book(book)
    if value is None:
        return not ends(book)
    return decides_all(value, book, tower_sums)


def knot(book):
    """A knot of a book, None without any."""
    check_book(book)
    left = climb(book, useful_level)[1][-1]
    if not left:
        return None
    firsts = [spread_for(book, left, spread) for spread in early_sides(book[0], left)[1]]
    lasts = [spread_for(book, left, spread) for spread in late_sides(book[0], left)[1]]
    return lot_for(book, left), tuple(firsts), tuple(lasts)


def shows_knot(book, value):
    """Whether a value is a knot of a book, or None for a book without any."""
    check_book(book)
    if value is None:
        return ends(book)
    if not isinstance(value, tuple) or len(value) != 3:
        return False
    lot, firsts, lasts = value
    if not is_even_lot(lot, book) or not is_spreads(firsts, book) or not is_spreads(lasts, book):
        return False
    whole = [(index, at) for index, rule in enumerate(book[1]) if lot[index] > 0 for at in range(len(rule[0]))]
    backward = [backward_spread(spread) for spread in lasts]
    return places_in_turn(firsts) == whole and places_in_turn(backward) == whole


def places_in_turn(spreads):
    """The ascending list of the places with a number above 0 in some spread, as (index of the rule, place).

    None if one of them, not a first place, has none ahead of it in an earlier spread.
    """
    seen = set()
    for spread in spreads:
        places = [(index, at) for index, item in enumerate(spread) for at in range(len(item)) if item[at] > 0]
        for index, at in places:
            if at > 0 and (index, at - 1) not in seen:
                return None
        for place in places:
            seen.add(place)
    return sorted(seen)
