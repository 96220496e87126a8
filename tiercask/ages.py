"""Ages of what stands in casks in the long run of a round."""

from tiercask.longrun import brought_totals, casks_table, closed_casks, led, left_alike
from tiercask.shares import over


def by_age(house, steps, many):
    rows = casks_table(house, steps)
    if len(closed_casks(rows)) > 0:
        return None
    totals = brought_totals(house, steps)
    told = []
    for age in range(many):
        told.append(totals)
        totals = led(rows, totals)
    return told


def mean_ages(house, steps):
    rows = casks_table(house, steps)
    if len(closed_casks(rows)) > 0:
        return None
    lasting = left_alike(rows, brought_totals(house, steps))
    # Amounts times ages: each round all that was there is one older, so what it was, led on, is added.
    aged = left_alike(rows, led(rows, lasting))
    means = {}
    for name, amount in lasting.items():
        means[name] = None if amount == (0, 1) else over(aged[name], amount)
    return means
