"""Lots and spreads: numbers for rules, and for the places of rules."""

from scatterbooks.checks import is_whole


def is_numbers(value, count):
    """Whether a value is a tuple of so many integers not below 0."""
    if not isinstance(value, tuple) or len(value) != count:
        return False
    return all(is_whole(item) and item >= 0 for item in value)


def is_spread(value, rules):
    """Whether a value is a spread for rules."""
    if not isinstance(value, tuple) or len(value) != len(rules):
        return False
    return all([is_numbers(item, len(rule[0])) for item, rule in zip(value, rules)])


def is_balanced(spread, book):
    """Whether each letter gets as much from a spread in left sides as in right ones."""
    many, rules = book
    sums = [0] * many
    for item, rule in zip(spread, rules):
        for number, letter, change in zip(item, rule[0], rule[1]):
            sums[letter] += number
            sums[change] -= number
    return not any(sums)


def is_even_lot(value, book):
    """Whether a value is a lot, not all 0, that is balanced with each rule's number at all its places."""
    rules = book[1]
    if not is_numbers(value, len(rules)) or not any(value):
        return False
    spread = [(number,) * len(rule[0]) for number, rule in zip(value, rules)]
    return is_balanced(spread, book)


def is_spreads(value, book):
    """Whether a value is a tuple of balanced spreads."""
    if not isinstance(value, tuple):
        return False
    return all(is_spread(item, book[1]) and is_balanced(item, book) for item in value)


def backward_spread(spread):
    """A spread with each rule's numbers read backward."""
    return tuple([item[::-1] for item in spread])


def for_all(rules, left, items, zeros):
    """The tuple of an item for each rule: of items for those that are left, of zeros for the others."""
    known = dict(zip(left, items))
    return tuple([known.get(rule, zero) for rule, zero in zip(rules, zeros)])
