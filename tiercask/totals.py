"""What stands, told by totals, and the steps that deeds come to by totals alone."""

from tiercask.errors import Full, Lacking
from tiercask.shares import minus, over, plus, times, under
from tiercask.wines import part_of, poured, total


def copied(standing):
    copies = {}
    for name, wine in standing.items():
        copies[name] = dict(wine)
    return copies


def totals_of(standing):
    totals = {}
    for name, wine in standing.items():
        totals[name] = total(wine)
    return totals


def rooms_of(house):
    rooms = {}
    for place in house:
        if place[0] == "cask":
            rooms[place[1]] = place[2]
    return rooms


def check_room(name, amount, at, totals, rooms):
    if name in rooms and under(rooms[name], plus(totals[name], amount)):
        raise Full(at)


def share_of(deed, at, totals, rooms):
    if deed[0] == "part":
        return deed[3]
    if deed[0] == "all":
        return (1, 1)
    amount = deed[3] if deed[0] == "move" else minus(rooms[deed[2]], totals[deed[2]])
    if under(totals[deed[1]], amount):
        raise Lacking(at)
    # Of nothing out of nothing there is no quotient.
    if amount == (0, 1):
        return (0, 1)
    return over(amount, totals[deed[1]])


def step_of(deed, at, year, totals, rooms):
    # It hangs on totals alone, so what comes of it for one wine comes of it for every other.
    if deed[0] == "bring":
        check_room(deed[2], deed[3], at, totals, rooms)
        return ("bring", (deed[1], year), deed[2], deed[3])
    share = share_of(deed, at, totals, rooms)
    check_room(deed[2], times(totals[deed[1]], share), at, totals, rooms)
    return ("pass", deed[1], deed[2], share)


def add_step(totals, step):
    if step[0] == "bring":
        totals[step[2]] = plus(totals[step[2]], step[3])
    else:
        amount = times(totals[step[1]], step[3])
        totals[step[1]] = minus(totals[step[1]], amount)
        totals[step[2]] = plus(totals[step[2]], amount)


def pour_step(standing, step):
    # New wines come in the stead of those that stood, since others may hold these.
    if step[0] == "bring":
        standing[step[2]] = poured(standing[step[2]], {step[1]: step[3]})
    else:
        wine = standing[step[1]]
        standing[step[1]] = part_of(wine, minus((1, 1), step[3]))
        standing[step[2]] = poured(standing[step[2]], part_of(wine, step[3]))


def steps_of(house, totals, year, deeds):
    rooms = rooms_of(house)
    now = dict(totals)
    steps = []
    for at, deed in enumerate(deeds):
        if deed[0] == "year":
            year += 1
        else:
            step = step_of(deed, at, year, now, rooms)
            add_step(now, step)
            steps.append(step)
    return (steps, now)


def gone(standing, steps):
    now = copied(standing)
    for step in steps:
        pour_step(now, step)
    return now
