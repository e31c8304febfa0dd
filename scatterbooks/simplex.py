"""The simplex method, in tables of integers.

A table is a list of rows with a column for each unknown number and one for the value behind them, the last
row that of the costs. Its integers stand for themselves divided by a unit. A basis names, for each row but the
last, the column whose number the row's value is; all other numbers are 0.
"""


def lowered(rows, basis, count):
    """Bring the first so many columns into the basis as long as one lowers the cost; returns the unit.

    The cost must not go down without end. The first unit is 1.
    """
    unit = 1
    column = entering(rows[-1], count)
    while column < count:
        leaving = leaving_row(rows, basis, column)
        basis[leaving] = column
        unit = turned(rows, leaving, column, unit)
        column = entering(rows[-1], count)
    return unit


def basis_numbers(rows, basis, count):
    """The list of the numbers of the first so many columns, each as its integer in the table."""
    numbers = [0] * count
    for row, column in zip(rows, basis):
        if column < count:
            numbers[column] = row[-1]
    return numbers


def entering(costs, count):
    """The first of so many columns that lowers the cost, their count without any.

    Always taking the first one keeps the method from going round for ever.
    """
    for column in range(count):
        if costs[column] < 0:
            return column
    return count


def leaving_row(rows, basis, column):
    """The row that first comes down to 0 while a column enters, of several the one of the first column."""
    best = -1
    for at in range(len(basis)):
        row = rows[at]
        if row[column] <= 0:
            continue
        if best >= 0:
            # Fractions are compared by their products, as both denominators are above 0.
            mine, least = row[-1] * rows[best][column], rows[best][-1] * row[column]
            if mine > least or (mine == least and basis[at] > basis[best]):
                continue
        best = at
    return best


def turned(rows, leaving, column, unit):
    """Bring a column into the place of a row's, in all rows; returns the new unit.

    Each division leaves no remainder, as all items are determinants of the first table.
    """
    chosen = rows[leaving]
    pivot = chosen[column]
    for at, row in enumerate(list(rows)):
        if at != leaving:
            factor = row[column]
            rows[at] = [(item * pivot - factor * other) // unit for item, other in zip(row, chosen)]
    return pivot
