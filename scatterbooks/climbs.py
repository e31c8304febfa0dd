"""The search for towers, and for what stands in the way of one."""

from scatterbooks.cones import sides
from scatterbooks.falls import EARLY, EVEN, LATE, backward_rules, level_number, place_fall, whole_fall
from scatterbooks.spreads import backward_spread


def climb(book):
    """Levels that are a tower for all rules but some, for which no level is of use, and the list of these.

    What can be decided once can still be decided when fewer rules are left, so no choice can be wrong.
    """
    many, rules = book
    levels = []
    left = list(rules)
    while left:
        level = useful_level(many, left)
        if level is None:
            break
        levels.append(level)
        left = [rule for rule in left if level_number(level, rule) == 0]
    return levels, left


def useful_level(many, rules):
    """A level that decides all of some rules, at least one of them not by 0, None without any."""
    level = (EVEN, tuple(even_sides(many, rules)[0]))
    if is_useful(level, rules):
        return level
    level = (EARLY, tuple(early_sides(many, rules)[0]))
    if is_useful(level, rules):
        return level
    level = (LATE, tuple(late_sides(many, rules)[0]))
    return level if is_useful(level, rules) else None


def is_useful(level, rules):
    """Whether a level decides one of some rules not by 0."""
    return any(level_number(level, rule) != 0 for rule in rules)


def even_sides(many, rules):
    """Weights for an even level of most use, and a number for each rule: above 0 where it is of none."""
    return sides(many, [whole_fall(many, rule) for rule in rules])


def early_sides(many, rules):
    """Weights for an early level of most use, and the list of spreads that show it to be so.

    A place counts only while those ahead of it fall by 0, and it must not rise then. A spread has numbers
    above 0 just at those places that count and cannot fall either. Behind these the next ones count, too.
    """
    opened = [1] * len(rules)
    spreads = []
    while True:
        weights, spread = open_sides(many, rules, opened)
        spreads.append(spread)
        wider = [many_opened(item, count) for item, count in zip(spread, opened)]
        if wider == opened:
            return weights, spreads
        opened = wider


def open_sides(many, rules, opened):
    """Weights and a spread as of sides for so many first places of each rule."""
    vectors = [place_fall(many, rule, at) for rule, count in zip(rules, opened) for at in range(count)]
    weights, numbers = sides(many, vectors)
    spread = []
    used = 0
    for rule, count in zip(rules, opened):
        closed = len(rule[0]) - count
        spread.append(tuple(numbers[used:used + count] + [0] * closed))
        used += count
    return weights, tuple(spread)


def many_opened(item, count):
    """How many places of a rule count behind a spread's item for it, of which so many have counted."""
    if item[count - 1] > 0 and count < len(item):
        return count + 1
    return count


def late_sides(many, rules):
    """What early_sides tells, with late for early and the place behind for the place ahead."""
    weights, spreads = early_sides(many, backward_rules(rules))
    return weights, [backward_spread(spread) for spread in spreads]
