"""Rows of fractions: equations solved, and a least cost found."""

from tiercask.shares import minus, over, times, under


def less_times(row, other, factor):
    if factor == (0, 1):
        return list(row)
    return [minus(one, times(two, factor)) for one, two in zip(row, other)]


def pivoted(rows, at, column):
    # The rows with the column cleared to 1 in the row number at, and to 0 in all others.
    lead = [over(number, rows[at][column]) for number in rows[at]]
    cleared = []
    for number, row in enumerate(rows):
        if number == at:
            cleared.append(lead)
        else:
            cleared.append(less_times(row, lead, row[column]))
    return cleared


def solved(rows):
    # Each row is an equation: its numbers of the unknowns, and behind them what they come to.
    # There is just one solution.
    many = len(rows)
    for column in range(many):
        at = column
        while rows[at][column] == (0, 1):
            at += 1
        ordered = list(rows)
        ordered[at] = rows[column]
        ordered[column] = rows[at]
        rows = pivoted(ordered, column, column)
    return [row[many] for row in rows]


def entering(costs, many):
    for column in range(many):
        if costs[column][0] < 0:
            return column
    return None


def leaving(rows, basis, column):
    best = None
    least = None
    for at, held in enumerate(basis):
        row = rows[at]
        if row[column][0] > 0:
            ratio = over(row[len(row) - 1], row[column])
            if best is None or under(ratio, least) or (ratio == least and held < basis[best]):
                best = at
                least = ratio
    return best


def lowered(rows, basis, many):
    # Rows of equations, of each the column that it holds in basis, and below them the row of costs.
    # Told are the rows and the basis at which the cost is least, by columns from 0 to many - 1.
    # Always the first column that helps, and of rows that bind alike the one that holds the first column:
    # so no basis comes again, and it ends.
    held = list(basis)
    while True:
        column = entering(rows[len(rows) - 1], many)
        if column is None:
            return (rows, held)
        at = leaving(rows, held, column)
        rows = pivoted(rows, at, column)
        held[at] = column
