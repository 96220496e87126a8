"""Wines: dicts from lots (name, year) to fractions above 0."""

from tiercask.shares import plus, sum_of, times


def poured(one, other):
    mixed = dict(one)
    for lot, amount in other.items():
        mixed[lot] = plus(mixed.get(lot, (0, 1)), amount)
    return mixed


def part_of(wine, share):
    part = {}
    for lot, amount in wine.items():
        taken = times(amount, share)
        # A wine holds no lot of which there is nothing.
        if taken != (0, 1):
            part[lot] = taken
    return part


def total(wine):
    return sum_of(list(wine.values()))


def told(wine):
    return sorted(wine.items())
