"""A steady list of deeds done many times, told by powers of its table."""

from tiercask.errors import NotSteady
from tiercask.tables import brought, power, table, through
from tiercask.totals import steps_of, totals_of
from tiercask.walk import empty
from tiercask.wines import part_of, poured


def check_steady(house, first, last):
    for place in house:
        if place[0] == "cask" and first[place[1]] != last[place[1]]:
            raise NotSteady("a cask holds more or less behind the round")


def brought_wines(house, names, steps):
    # What one round brings, as a standing at its end.
    wines = empty(house)
    for lot, amount, ends in brought(names, steps):
        for place, share in ends.items():
            wines[place] = poured(wines[place], part_of({lot: amount}, share))
    return wines


def younger(wine, years):
    later = {}
    for lot, amount in wine.items():
        later[(lot[0], lot[1] + years)] = amount
    return later


def rounds(house, standing, year, deeds, n):
    first = totals_of(standing)
    walked = steps_of(house, first, year, deeds)
    check_steady(house, first, walked[1])
    names = [place[1] for place in house]
    once = table(names, walked[0])
    years = deeds.count(("year",))
    last = through(power(once, n), standing)
    wines = brought_wines(house, names, walked[0])
    for k in range(n):
        # What went on through k rounds was brought by the round number n - 1 - k.
        for name in names:
            last[name] = poured(last[name], younger(wines[name], years * (n - 1 - k)))
        wines = through(once, wines)
    return last
