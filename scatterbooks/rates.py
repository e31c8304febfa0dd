"""How many steps runs make for each letter of a word, for books whose runs grow with the length only."""

from scatterbooks.falls import EVEN, level_number, whole_fall
from scatterbooks.lengths import even_weights
from scatterbooks.ratios import brought_together, is_shares, ratio
from scatterbooks.simplex import basis_numbers, lowered


def rate(book):
    """The least number such that no run makes more steps than it times the word's length, None without any."""
    parts = rate_parts(book)
    return None if parts is None else parts[0]


def rate_weights(book):
    """Ratios from 0 to the rate, as weights with which each rule falls by 1 at least in all, None without a rate."""
    parts = rate_parts(book)
    return None if parts is None else parts[1]


def shows_rate_weights(book, value):
    """Whether a value is such weights, or None without a rate."""
    most = rate(book)
    if most is None:
        return value is None
    many, rules = book
    if not is_shares(value, many):
        return False
    weights, unit = brought_together(value)
    if any([weight * most[1] > most[0] * unit for weight in weights]):
        return False
    return all([level_number((EVEN, weights), rule) >= unit for rule in rules])


def rate_plan(book):
    """Amounts of the rules that add up to the rate, and a mixture of letters that they use up, None without a rate."""
    parts = rate_parts(book)
    return None if parts is None else parts[2]


def shows_rate_plan(book, value):
    """Whether a value is such a plan, or None without a rate."""
    most = rate(book)
    if most is None:
        return value is None
    many, rules = book
    if not isinstance(value, tuple) or len(value) != 2:
        return False
    if not is_shares(value[0], len(rules)) or not is_shares(value[1], many):
        return False
    numbers, unit = brought_together(value[0] + value[1])
    amounts, mixture = numbers[:len(rules)], numbers[len(rules):]
    if sum(amounts) * most[1] != most[0] * unit or sum(mixture) != unit:
        return False
    used = [0] * many
    for amount, rule in zip(amounts, rules):
        used = [number + amount * fall for number, fall in zip(used, whole_fall(many, rule))]
    return all([number <= share for number, share in zip(used, mixture)])


def rate_parts(book):
    """The triple of the rate of a book, its weights and its plan, None without a rate.

    The simplex method looks for the plan: its unknown numbers are the amounts, the mixture, and how far each
    letter and the mixture as a whole stay behind what they may be. The costs of these last ones at the end
    are the weights and the rate.
    """
    if even_weights(book) is None:
        return None
    many, rules = book
    count = len(rules) + many
    rows = first_rows(many, rules)
    basis = list(range(count, count + many + 1))
    unit = lowered(rows, basis, count + many + 1)
    numbers = basis_numbers(rows, basis, count)
    # Without rules nothing is used up, and the mixture may be any.
    numbers[len(rules)] += unit - sum(numbers[len(rules):])
    shares = [ratio(number, unit) for number in numbers]
    weights = [ratio(cost, unit) for cost in rows[-1][count:count + many]]
    return ratio(rows[-1][-1], unit), tuple(weights), (tuple(shares[:len(rules)]), tuple(shares[len(rules):]))


def first_rows(many, rules):
    """The first table: a row for each letter, one for the mixture as a whole, and the row of costs."""
    rows = []
    falls = [whole_fall(many, rule) for rule in rules]
    for letter in range(many):
        row = [fall[letter] for fall in falls]
        row += [-1 if other == letter else 0 for other in range(many)]
        row += [1 if other == letter else 0 for other in range(many + 1)]
        rows.append(row + [0])
    rows.append([0] * len(rules) + [1] * many + [0] * many + [1, 1])
    # Each amount lowers the cost by itself, so that their sum comes to be the greatest.
    rows.append([-1] * len(rules) + [0] * (2 * many + 2))
    return rows
