"""The search for mild towers with the fewest slopes, and for what stands in the way of fewer or of any."""

from itertools import accumulate

from scatterbooks.climbs import even_sides, is_useful, spread_for
from scatterbooks.cones import sides
from scatterbooks.falls import EVEN, LATE, whole_fall


def mild_level(many, rules):
    """A level of a mild tower that decides all of some rules, at least one of them not by 0, None without any.

    A slope comes only where no even level is of use. There all rules fall by 0 in all, so an early level is a
    late one with the opposite weights, and none is needed.
    """
    level = (EVEN, tuple(even_sides(many, rules)[0]))
    if is_useful(level, rules):
        return level
    level = (LATE, tuple(late_slope(many, rules)[0]))
    return level if is_useful(level, rules) else None


def late_slope(many, rules):
    """Weights for a late level of most use in a mild tower, and a tuple of numbers for the places of each rule.

    The numbers are balanced and do not fall from place to place. They are above 0 and rise strictly just for
    the rules for which the level is of no use.
    """
    weights, numbers = sides(many, [end_fall(many, rule, at) for rule in rules for at in range(len(rule[0]))])
    items = []
    for left, _ in rules:
        # A number for the end that begins at a place is one for this place and all behind it.
        items.append(tuple(accumulate(numbers[:len(left)])))
        numbers = numbers[len(left):]
    return weights, items


def end_fall(many, rule, at):
    """The vector whose product with weights is the sum by which the places of a rule from one on fall."""
    left, right = rule
    return whole_fall(many, (left[at:], right[at:]))


def rising_spread(book, left):
    """A balanced spread with numbers that do not fall, above 0 and rising where no late level is of use."""
    return spread_for(book, left, late_slope(book[0], left)[1])


def opposite_spread(lot, spread):
    """A spread that falls as another one rises, above 0 for the rules with a number above 0 in an even lot.

    If the other one is balanced and 0 at all other rules, so is this one.
    """
    most = max([max(item) // number for number, item in zip(lot, spread) if number > 0]) + 1
    return tuple([tuple([most * number - place for place in item]) for number, item in zip(lot, spread)])
