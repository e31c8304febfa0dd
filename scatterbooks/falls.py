"""How much places of rules fall by weights, and what levels of towers make of it."""

from itertools import accumulate

from scatterbooks.checks import is_whole

EARLY = "early"
EVEN = "even"
LATE = "late"


def is_weights(value, many):
    """Whether a value is a tuple of an integer for each letter."""
    return isinstance(value, tuple) and len(value) == many and all(is_whole(item) for item in value)


def is_level(value, many):
    """Whether a value is a pair of one of the three words and weights."""
    if not isinstance(value, tuple) or len(value) != 2:
        return False
    word, weights = value
    return word in (EARLY, EVEN, LATE) and is_weights(weights, many)


def place_falls(weights, rule):
    """By how much each place of a rule falls."""
    left, right = rule
    return [weights[letter] - weights[change] for letter, change in zip(left, right)]


def level_number(level, rule):
    """The number by which a level of a tower decides a rule."""
    word, weights = level
    falls = place_falls(weights, rule)
    if word == EVEN:
        return sum(falls)
    changing = [fall for fall in falls if fall != 0]
    if not changing:
        return 0
    return changing[0] if word == EARLY else changing[-1]


def tower_sums(level, rule):
    """What must not be below 0 for a rule at a level of a tower."""
    return [level_number(level, rule)]


def mild_sums(level, rule):
    """What must not be below 0 for a rule at a level of a mild tower."""
    word, weights = level
    falls = place_falls(weights, rule)
    if word == EVEN:
        return [sum(falls)]
    if word == LATE:
        falls.reverse()
    return list(accumulate(falls))


def decides_all(value, book, sums):
    """Whether a value is a tuple of levels with no sums below 0 for the rules left, and none left behind the last."""
    many, left = book
    if not isinstance(value, tuple) or not all(is_level(level, many) for level in value):
        return False
    for level in value:
        found = [sums(level, rule) for rule in left]
        if any([item < 0 for numbers in found for item in numbers]):
            return False
        left = [rule for rule, numbers in zip(left, found) if not any(numbers)]
    return not left


def place_fall(many, rule, at):
    """The vector whose product with weights is by how much a place of a rule falls."""
    left, right = rule
    fall = [0] * many
    fall[left[at]] += 1
    fall[right[at]] -= 1
    return fall


def whole_fall(many, rule):
    """The vector whose product with weights is the sum by which all places of a rule fall."""
    left, right = rule
    return [left.count(letter) - right.count(letter) for letter in range(many)]


def backward_rules(rules):
    """Rules with both sides read backward, in the same order."""
    return [(left[::-1], right[::-1]) for left, right in rules]
