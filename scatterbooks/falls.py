"""How much places of rules fall by weights, and what levels of towers make of it."""

from scatterbooks.checks import is_whole

EARLY = "early"
EVEN = "even"
LATE = "late"


def is_weights(value, many):
    """Whether a value is a tuple of an integer for each letter."""
    return isinstance(value, tuple) and len(value) == many and all(is_whole(item) for item in value)


def is_level(value, many):
    """Whether a value is a pair of one of the three words and weights."""
    if not isinstance(value, tuple) or len(value) != 2:
        return False
    word, weights = value
    return word in (EARLY, EVEN, LATE) and is_weights(weights, many)


def level_number(level, rule):
    """The number by which a level decides a rule."""
    word, weights = level
    left, right = rule
    falls = [weights[letter] - weights[change] for letter, change in zip(left, right)]
    if word == EVEN:
        return sum(falls)
    changing = [fall for fall in falls if fall != 0]
    if not changing:
        return 0
    return changing[0] if word == EARLY else changing[-1]


def place_fall(many, rule, at):
    """The vector whose product with weights is by how much a place of a rule falls."""
    left, right = rule
    fall = [0] * many
    fall[left[at]] += 1
    fall[right[at]] -= 1
    return fall


def whole_fall(many, rule):
    """The vector whose product with weights is the sum by which all places of a rule fall."""
    left, right = rule
    return [left.count(letter) - right.count(letter) for letter in range(many)]


def backward_rules(rules):
    """Rules with both sides read backward, in the same order."""
    return [(left[::-1], right[::-1]) for left, right in rules]
