"""Vectors of integers: weights that none of them falls under, and numbers with which they add up to 0."""


def sides(many, vectors):
    """Weights and numbers for vectors of so many integers.

    No vector's product with the weights is below 0, no number is below 0, and the vectors, each as often
    as its number says, add up to 0. For each vector just one of its product and its number is above 0.
    """
    weights = [0] * many
    numbers = [0] * len(vectors)
    for at, vector in enumerate(vectors):
        if numbers[at] == 0 and product_of(weights, vector) == 0:
            # Adding keeps what earlier vectors have, as nothing that is added is below 0.
            more_weights, more_numbers = decided(many, vectors, at)
            weights = sum_of(weights, more_weights)
            numbers = sum_of(numbers, more_numbers)
    return weights, numbers


def product_of(weights, vector):
    """The sum of the products of the items of two lists."""
    return sum([weight * item for weight, item in zip(weights, vector)])


def sum_of(one, other):
    """The list of the sums of the items of two lists."""
    return [item + more for item, more in zip(one, other)]


def decided(many, vectors, at):
    """Weights and numbers as of sides, of which just one kind is all 0, that decide the vector at a place.

    This is the first phase of the simplex method: it looks for numbers with which the vectors add up to
    the opposite of the one at the place. Its tables hold integers; each stands for itself divided by unit.
    """
    count = len(vectors)
    signs = [1 if item <= 0 else -1 for item in vectors[at]]
    rows = first_rows(many, vectors, at, signs)
    basis = list(range(count, count + many))
    unit = 1
    column = entering(rows[-1], count)
    while column < count:
        leaving = leaving_row(rows, basis, column)
        basis[leaving] = column
        unit = turned(rows, leaving, column, unit)
        column = entering(rows[-1], count)
    if rows[-1][-1] < 0:
        slopes = rows[-1][count:count + many]
        return [sign * (slope - unit) for sign, slope in zip(signs, slopes)], [0] * count
    numbers = [0] * count
    for row, place in zip(rows, basis):
        if place < count:
            numbers[place] = row[-1]
    numbers[at] += unit
    return [0] * many, numbers


def first_rows(many, vectors, at, signs):
    """The first table: a row for each item of the vectors, and the row of costs."""
    rows = []
    for item in range(many):
        row = [signs[item] * vector[item] for vector in vectors]
        row += [1 if other == item else 0 for other in range(many)]
        row.append(-signs[item] * vectors[at][item])
        rows.append(row)
    costs = [-sum([line[column] for line in rows]) for column in range(len(rows[0]))]
    costs[len(vectors):-1] = [0] * many
    rows.append(costs)
    return rows


def entering(costs, count):
    """The first of the columns of vectors that lowers the cost, their count without any.

    Always taking the first one keeps the method from going round for ever.
    """
    if costs[-1] < 0:
        for column in range(count):
            if costs[column] < 0:
                return column
    return count


def leaving_row(rows, basis, column):
    """The row that first comes down to 0 while a column enters, of several the one of the first column."""
    best = -1
    for at in range(len(basis)):
        row = rows[at]
        if row[column] <= 0:
            continue
        if best >= 0:
            # Fractions are compared by their products, as both denominators are above 0.
            mine, least = row[-1] * rows[best][column], rows[best][-1] * row[column]
            if mine > least or (mine == least and basis[at] > basis[best]):
                continue
        best = at
    return best


def turned(rows, leaving, column, unit):
    """Bring a column into the place of a row's, in all rows; returns the new unit.

    Each division leaves no remainder, as all items are determinants of the first table.
    """
    chosen = rows[leaving]
    pivot = chosen[column]
    for at, row in enumerate(list(rows)):
        if at != leaving:
            factor = row[column]
            rows[at] = [(item * pivot - factor * other) // unit for item, other in zip(row, chosen)]
    return pivot
