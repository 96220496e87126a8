"""Plain deeds, walked from a standing."""

from tiercask.totals import add_step, copied, pour_step, rooms_of, step_of, totals_of


def empty(house):
    standing = {}
    for place in house:
        standing[place[1]] = {}
    return standing


def walk(house, standing, year, deeds):
    rooms = rooms_of(house)
    totals = totals_of(standing)
    now = copied(standing)
    standings = [copied(now)]
    for at, deed in enumerate(deeds):
        if deed[0] == "year":
            year += 1
        else:
            step = step_of(deed, at, year, totals, rooms)
            add_step(totals, step)
            pour_step(now, step)
        standings.append(copied(now))
    return (standings, year)
