"""Tables: of what stands in each place at first, which share stands in each at last."""

from tiercask.shares import minus, plus, times
from tiercask.wines import part_of, poured


def unmoved(names):
    rows = {}
    for name in names:
        rows[name] = {name: (1, 1)}
    return rows


def add_shares(ends, shares, factor):
    # A factor of 0 would bring in shares of 0, and a table has none.
    if factor != (0, 1):
        for place, share in shares.items():
            ends[place] = plus(ends.get(place, (0, 1)), times(share, factor))


def passed(rows, step):
    # Of what stands in x ahead of a pass: where it stands at last, if rows tell that of what stands behind it.
    ends = {}
    add_shares(ends, rows[step[1]], minus((1, 1), step[3]))
    add_shares(ends, rows[step[2]], step[3])
    return ends


def table(names, steps):
    # Backwards, so that a pass changes one row alone.
    rows = unmoved(names)
    for step in reversed(steps):
        if step[0] == "pass":
            rows[step[1]] = passed(rows, step)
    return rows


def brought(names, steps):
    rows = unmoved(names)
    told = []
    for step in reversed(steps):
        if step[0] == "pass":
            rows[step[1]] = passed(rows, step)
        else:
            told.append((step[1], step[3], dict(rows[step[2]])))
    told.reverse()
    return told


def behind(one, other):
    both = {}
    for place, shares in one.items():
        ends = {}
        for middle, share in shares.items():
            add_shares(ends, other[middle], share)
        both[place] = ends
    return both


def power(one, n):
    result = unmoved(list(one))
    square = one
    while n > 0:
        if n % 2 == 1:
            result = behind(result, square)
        n = n // 2
        if n > 0:
            square = behind(square, square)
    return result


def through(one, standing):
    after = {}
    for place in standing:
        after[place] = {}
    for place, wine in standing.items():
        for end, share in one[place].items():
            after[end] = poured(after[end], part_of(wine, share))
    return after
