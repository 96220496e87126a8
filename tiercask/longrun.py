"""The long run of a round: the totals that it leaves as they are, and how soon all others come near."""

from tiercask.shares import minus, plus, sum_of, times, under
from tiercask.solving import solved
from tiercask.tables import brought, table

MOST_ROUNDS = 200


def names_of(house):
    return [place[1] for place in house]


def casks_of(house):
    return [place[1] for place in house if place[0] == "cask"]


def only(shares, casks):
    kept_shares = {}
    for name in casks:
        if name in shares:
            kept_shares[name] = shares[name]
    return kept_shares


def casks_table(house, steps):
    casks = casks_of(house)
    whole = table(names_of(house), steps)
    rows = {}
    for name in casks:
        rows[name] = only(whole[name], casks)
    return rows


def brought_totals(house, steps):
    totals = {}
    for name in casks_of(house):
        totals[name] = (0, 1)
    for lot, amount, ends in brought(names_of(house), steps):
        for name, share in only(ends, casks_of(house)).items():
            totals[name] = plus(totals[name], times(amount, share))
    return totals


def led(rows, totals):
    # What totals of casks are behind one more round, without what it brings.
    after = {}
    for name in totals:
        after[name] = (0, 1)
    for name, shares in rows.items():
        for end, share in shares.items():
            after[end] = plus(after[end], times(totals[name], share))
    return after


def left_alike(rows, added):
    # The totals that are as they were, led through a round with something added behind it.
    casks = list(rows)
    equations = []
    for name in casks:
        equation = []
        for cask in casks:
            stays = (1, 1) if cask == name else (0, 1)
            equation.append(minus(stays, rows[cask].get(name, (0, 1))))
        equations.append(equation + [added[name]])
    return dict(zip(casks, solved(equations)))


def closed_casks(rows):
    # Some of a cask goes to a sink just where less than all of it stays in casks.
    leaking = {}
    for name, shares in rows.items():
        if sum_of(list(shares.values())) != (1, 1):
            leaking[name] = True
    for again in range(len(rows)):
        for name, shares in rows.items():
            if any([end in leaking for end in shares]):
                leaking[name] = True
    return sorted([name for name in rows if name not in leaking])


def nearness(rows):
    # The least number of rounds behind which a share below (1, 1) of each cask is in casks, and the greatest of these.
    staying = {}
    for name in rows:
        staying[name] = (1, 1)
    k = 0
    share = (1, 1)
    while share == (1, 1):
        after = {}
        for name, shares in rows.items():
            after[name] = sum_of([times(part, staying[end]) for end, part in shares.items()])
        staying = after
        k += 1
        share = (0, 1)
        for part in staying.values():
            share = part if under(share, part) else share
    return (k, share)


def long_run(house, steps):
    rows = casks_table(house, steps)
    closed = closed_casks(rows)
    if len(closed) > 0:
        return ("closed", closed)
    return ("lasting", left_alike(rows, brought_totals(house, steps)), nearness(rows))


def how_soon(k, share, part):
    n = 0
    differing = (1, 1)
    while under(part, differing):
        n += k
        if n > MOST_ROUNDS:
            return None
        differing = times(differing, share)
    return n
