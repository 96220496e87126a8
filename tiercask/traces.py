"""Where a bring went, and what a place came from."""

from tiercask.shares import over, sum_of, times
from tiercask.tables import brought


def forth(names, steps, k):
    return brought(names, steps)[k][2]


def back(names, steps, place):
    amounts = []
    for lot, amount, ends in brought(names, steps):
        amounts.append(times(amount, ends.get(place, (0, 1))))
    together = sum_of(amounts)
    return [(k, over(amount, together)) for k, amount in enumerate(amounts) if amount != (0, 1)]
