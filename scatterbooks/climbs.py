"""The search for towers, and for what stands in the way of one."""

from scatterbooks.cones import sides
from scatterbooks.falls import EARLY, EVEN, LATE, backward_rules, level_number, place_fall, whole_fall
from scatterbooks.spreads import backward_spread, for_all


def climb(book, find_level):
    """Levels that are a tower for all rules but some, for which no level is of use, and what is left of the rules.

    What is left is a list of lists of rules: those ahead of each level, and at last those behind all levels. A
    level comes from find_level, for the number of letters and the rules left; None ends the climb.
    """
    many, rules = book
    levels = []
    lefts = [list(rules)]
    while lefts[-1]:
        # What can be decided once can still be decided when fewer rules are left, so no choice can be wrong.
        level = find_level(many, lefts[-1])
        if level is None:
            break
        levels.append(level)
        lefts.append([rule for rule in lefts[-1] if level_number(level, rule) == 0])
    return levels, lefts


def useful_level(many, rules):
    """A level that decides all of some rules, at least one of them not by 0, None without any."""
    level = (EVEN, tuple(even_sides(many, rules)[0]))
    if is_useful(level, rules):
        return level
    level = (EARLY, tuple(early_sides(many, rules)[0]))
    if is_useful(level, rules):
        return level
    level = (LATE, tuple(late_sides(many, rules)[0]))
    return level if is_useful(level, rules) else None


def is_useful(level, rules):
    """Whether a level decides one of some rules not by 0."""
    return any(level_number(level, rule) != 0 for rule in rules)


def even_sides(many, rules):
    """Weights for an even level of most use, and a number for each rule: above 0 where it is of none."""
    return sides(many, [whole_fall(many, rule) for rule in rules])


def lot_for(book, left):
    """A number for each rule of a book: above 0 for those of the rules left for which no even level is of use."""
    many, rules = book
    return for_all(rules, left, even_sides(many, left)[1], [0] * len(rules))


def spread_for(book, left, items):
    """The spread for a book with items for the rules left, and 0 at all places of the others."""
    rules = book[1]
    return for_all(rules, left, items, [(0,) * len(rule[0]) for rule in rules])


def early_sides(many, rules):
    """Weights for an early level of most use, and the list of spreads that show it to be so.

    A place counts only while those ahead of it fall by 0, and it must not rise then. A spread has numbers
    above 0 just at those places that count and cannot fall either. Behind these the next ones count, too.
    """
    opened = [1] * len(rules)
    spreads = []
    while True:
        weights, spread = open_sides(many, rules, opened)
        spreads.append(spread)
        wider = [many_opened(item, count) for item, count in zip(spread, opened)]
        if wider == opened:
            return weights, spreads
        opened = wider


def open_sides(many, rules, opened):
    """Weights and a spread as of sides for so many first places of each rule."""
    vectors = [place_fall(many, rule, at) for rule, count in zip(rules, opened) for at in range(count)]
    weights, numbers = sides(many, vectors)
    spread = []
    used = 0
    for rule, count in zip(rules, opened):
        closed = len(rule[0]) - count
        spread.append(tuple(numbers[used:used + count] + [0] * closed))
        used += count
    return weights, tuple(spread)


def many_opened(item, count):
    """How many places of a rule count behind a spread's item for it, of which so many have counted."""
    if item[count - 1] > 0 and count < len(item):
        return count + 1
    return count


def late_sides(many, rules):
    """What early_sides tells, with late for early and the place behind for the place ahead."""
    weights, spreads = early_sides(many, backward_rules(rules))
    return weights, [backward_spread(spread) for spread in spreads]
