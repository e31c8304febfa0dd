"""The document's sums of points 10 to 13 once more, as plainly as can be, in fractions of Python's own."""

import itertools
import math
from fractions import Fraction

from own import is_count, own_balanced, own_spread


def own_falls(rule, weights):
    """By how much each place of a rule falls."""
    left, right = rule
    return [weights[a] - weights[b] for a, b in zip(left, right)]


def own_weights(value, many):
    """Whether a value is a tuple of an integer for each letter."""
    return type(value) is tuple and len(value) == many and all(type(item) is int for item in value)


def own_even_weights(book, value):
    """Whether a value is even weights of a book."""
    many, rules = book
    return own_weights(value, many) and all(sum(own_falls(rule, value)) > 0 for rule in rules)


def own_even_lot(book, value):
    """Whether a value is an even lot of a book."""
    rules = book[1]
    if type(value) is not tuple or len(value) != len(rules) or not all(is_count(number) for number in value):
        return False
    spread = [[number] * len(rule[0]) for number, rule in zip(value, rules)]
    return sum(value) > 0 and own_balanced(book, spread)


def own_levels(value, many):
    """Whether a value is a tuple of levels."""
    return type(value) is tuple and all(
        type(level) is tuple and len(level) == 2 and type(level[0]) is str and level[0] in ("early", "even", "late")
        and own_weights(level[1], many) for level in value)


def own_sums(level, rule):
    """The sums of falls of a rule that must not be below 0 at a level of a mild tower."""
    word, weights = level
    falls = own_falls(rule, weights)
    size = len(falls)
    if word == "early":
        return [sum(falls[:many]) for many in range(1, size + 1)]
    if word == "late":
        return [sum(falls[size - many:]) for many in range(1, size + 1)]
    return [sum(falls)]


def own_mild_tower(book, value):
    """Whether a value is a mild tower of a book."""
    many, left = book
    if not own_levels(value, many):
        return False
    for level in value:
        if any(number < 0 for rule in left for number in own_sums(level, rule)):
            return False
        left = [rule for rule in left if set(own_sums(level, rule)) == {0}]
    return not left


def own_slopes(value):
    """How many levels of a mild tower are slopes."""
    return sum(level[0] in ("early", "late") for level in value)


def rising(numbers):
    """Whether numbers rise strictly."""
    return all(one < other for one, other in itertools.pairwise(numbers))


def own_swell(book, value):
    """Whether a value is a swell of a book."""
    if type(value) is not tuple or len(value) != 3:
        return False
    lot, more, less = value
    if not own_even_lot(book, lot):
        return False
    for spread in (more, less):
        if not own_spread(book, spread) or not own_balanced(book, spread):
            return False
        for number, numbers in zip(lot, spread):
            if any((place > 0) != (number > 0) for place in numbers):
                return False
    return all(number == 0 or rising(high[::-1]) and rising(low) for number, high, low in zip(lot, more, less))


def own_ladder(book, value):
    """Whether a value is a ladder of a book, with any number of lots."""
    if type(value) is not tuple or value and len(value) % 2 == 0:
        return False
    for at, paper in enumerate(value):
        if at % 2 == 0:
            if not own_even_lot(book, paper):
                return False
            continue
        if not own_spread(book, paper) or not own_balanced(book, paper):
            return False
        if not own_even_lot(book, value[at + 1]):
            return False
        for below, numbers, above in zip(value[at - 1], paper, value[at + 1]):
            if any(one > other for one, other in itertools.pairwise(numbers)):
                return False
            if below == 0 and sum(numbers) > 0:
                return False
            if above > 0 and not (below > 0 and min(numbers) > 0 and rising(numbers)):
                return False
    return True


def own_ratio(value):
    """Whether a value is a ratio not below 0."""
    return (type(value) is tuple and len(value) == 2 and is_count(value[0]) and is_count(value[1])
            and value[1] > 0 and math.gcd(*value) == 1)


def own_ratios(value, many):
    """Whether a value is a tuple of so many ratios not below 0."""
    return type(value) is tuple and len(value) == many and all(own_ratio(item) for item in value)


def own_rate_weights(book, most, value):
    """Whether a value is weights up to a rate."""
    many, rules = book
    if not own_ratios(value, many):
        return False
    weights = [Fraction(*item) for item in value]
    return max(weights) <= Fraction(*most) and all(sum(own_falls(rule, weights)) >= 1 for rule in rules)


def own_rate_plan(book, most, value):
    """Whether a value is a plan whose amounts add up to a rate."""
    many, rules = book
    if type(value) is not tuple or len(value) != 2:
        return False
    if not own_ratios(value[0], len(rules)) or not own_ratios(value[1], many):
        return False
    amounts, mixture = [[Fraction(*item) for item in part] for part in value]
    if sum(amounts) != Fraction(*most) or sum(mixture) != 1:
        return False
    return all(sum(amount * (rule[0].count(letter) - rule[1].count(letter)) for amount, rule in zip(amounts, rules))
               <= mixture[letter] for letter in range(many))


def own_most_steps(value, size):
    """How many steps a run from a word of so many letters makes at most, by a mild tower.

    A level's sum over a word counts a letter's weight once, or, at a slope, as often as there are letters from
    it on (early) or up to it (late). Steps of a rule that is left do not raise it, and lower it if the level
    decides the rule; steps of rules that were decided ahead raise it by three letters' share at most.
    """
    steps = 0
    for word, weights in value:
        most = max(weights) - min(weights)
        often = 1 if word == "even" else size
        whole = size if word == "even" else size * (size + 1) // 2
        steps += most * whole + steps * 3 * most * often
    return steps
