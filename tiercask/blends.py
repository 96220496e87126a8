"""A blend of which none is cheaper, or none, each with its paper."""

from tiercask.papers import weights_in
from tiercask.shares import minus
from tiercask.solving import less_times, lowered, pivoted
from tiercask.wines import total

# The columns of all rows: of each wine its amount, of each wine what is left of it, of each condition what it is
# kept by, then what lacks of the amount wished for, and what the row comes to.


def unit(many, column):
    row = [(0, 1)] * many
    row[column] = (1, 1)
    return row


def first_rows(offer, wish, now):
    wines = len(offer)
    slacks = wines + len(wish[1]) + 1
    rows = []
    for j, pair in enumerate(offer):
        rows.append(unit(wines, j) + unit(slacks, j) + [total(pair[0])])
    for c, weights in enumerate(weights_in(offer, wish[1], now)):
        rows.append([minus((0, 1), number) for number in weights] + unit(slacks, wines + c) + [(0, 1)])
    rows.append([(1, 1)] * wines + unit(slacks, slacks - 1) + [wish[0]])
    return rows


def lack_costs(row):
    # What lacks costs 1, less the row that holds it.
    return [minus((0, 1), number) for number in row[:len(row) - 2]] + [(0, 1), minus((0, 1), row[len(row) - 1])]


def price_costs(offer, rows, basis):
    prices = [price for wine, price in offer]
    costs = prices + [(0, 1)] * (len(rows[0]) - len(prices))
    for at, held in enumerate(basis):
        if held < len(prices):
            costs = less_times(costs, rows[at], prices[held])
    return costs


def without_lack(rows, basis, lack):
    # Where nothing lacks, but a row still holds the lack, another column takes its place:
    # the row comes to 0, so any number of it will do.
    held = list(basis)
    if lack in held:
        at = held.index(lack)
        column = [number for number in range(lack) if rows[at][number] != (0, 1)][0]
        rows = pivoted(rows, at, column)
        held[at] = column
    return (rows, held)


def paper_of(costs, wines, conditions, lack_cost):
    w = costs[wines:2 * wines]
    v = costs[2 * wines:2 * wines + conditions]
    return (minus(lack_cost, costs[2 * wines + conditions]), v, w)


def amounts_of(rows, basis, wines):
    amounts = [(0, 1)] * wines
    for at, held in enumerate(basis):
        if held < wines:
            amounts[held] = rows[at][len(rows[at]) - 1]
    return amounts


def blend(offer, wish, now):
    wines = len(offer)
    conditions = len(wish[1])
    lack = 2 * wines + conditions
    rows = first_rows(offer, wish, now)
    found = lowered(rows + [lack_costs(rows[lack - wines])], list(range(wines, lack + 1)), lack)
    costs = found[0][len(rows)]
    if costs[lack + 1] != (0, 1):
        return ("none", paper_of(costs, wines, conditions, (1, 1)))
    found = without_lack(found[0][:len(rows)], found[1], lack)
    found = lowered(found[0] + [price_costs(offer, found[0], found[1])], found[1], lack)
    paper = paper_of(found[0][len(rows)], wines, conditions, (0, 1))
    return ("blend", amounts_of(found[0], found[1], wines), paper)
