"""Vectors of integers: weights that none of them falls under, and numbers with which they add up to 0."""

from scatterbooks.simplex import basis_numbers, lowered


def sides(many, vectors):
    """Weights and numbers for vectors of so many integers.

    No vector's product with the weights is below 0, no number is below 0, and the vectors, each as often
    as its number says, add up to 0. For each vector just one of its product and its number is above 0.
    """
    weights = [0] * many
    numbers = [0] * len(vectors)
    for at, vector in enumerate(vectors):
        if numbers[at] == 0 and product_of(weights, vector) == 0:
            # Adding keeps what earlier vectors have, as nothing that is added is below 0.
            more_weights, more_numbers = decided(many, vectors, at)
            weights = sum_of(weights, more_weights)
            numbers = sum_of(numbers, more_numbers)
    return weights, numbers


def product_of(weights, vector):
    """The sum of the products of the items of two lists."""
    return sum([weight * item for weight, item in zip(weights, vector)])


def sum_of(one, other):
    """The list of the sums of the items of two lists."""
    return [item + more for item, more in zip(one, other)]


def decided(many, vectors, at):
    """Weights and numbers as of sides, of which just one kind is all 0, that decide the vector at a place.

    This is the first phase of the simplex method: it looks for numbers with which the vectors add up to
    the opposite of the one at the place.
    """
    count = len(vectors)
    signs = [1 if item <= 0 else -1 for item in vectors[at]]
    rows = first_rows(many, vectors, at, signs)
    basis = list(range(count, count + many))
    unit = lowered(rows, basis, count)
    if rows[-1][-1] < 0:
        slopes = rows[-1][count:count + many]
        return [sign * (slope - unit) for sign, slope in zip(signs, slopes)], [0] * count
    numbers = basis_numbers(rows, basis, count)
    numbers[at] += unit
    return [0] * many, numbers


def first_rows(many, vectors, at, signs):
    """The first table: a row for each item of the vectors, and the row of costs."""
    rows = []
    for item in range(many):
        row = [signs[item] * vector[item] for vector in vectors]
        row += [1 if other == item else 0 for other in range(many)]
        row.append(-signs[item] * vectors[at][item])
        rows.append(row)
    costs = [-sum([line[column] for line in rows]) for column in range(len(rows[0]))]
    costs[len(vectors):-1] = [0] * many
    rows.append(costs)
    return rows
