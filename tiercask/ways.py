"""Ways of a bring through the steps behind it, and the greatest of them."""

from tiercask.shares import minus, times, under


def bring_at(steps, k):
    return [at for at, step in enumerate(steps) if step[0] == "bring"][k]


def raise_share(shares, place, share):
    if under(shares.get(place, (0, 1)), share):
        shares[place] = share


def behind_step(shares, step):
    if step[0] == "bring" or step[1] not in shares:
        return dict(shares)
    after = {}
    for place, share in shares.items():
        if place == step[1]:
            raise_share(after, place, times(share, minus((1, 1), step[3])))
        else:
            raise_share(after, place, share)
    raise_share(after, step[2], times(shares[step[1]], step[3]))
    return after


def greatest_shares(steps, k):
    at = bring_at(steps, k)
    shares = [{steps[at][2]: (1, 1)}]
    for step in steps[at + 1:]:
        shares.append(behind_step(shares[len(shares) - 1], step))
    return shares


def place_ahead(step, before, place, share):
    # A greatest way to a place goes on from a greatest way to the place ahead of it.
    if step[0] == "pass" and step[2] == place and step[1] in before:
        if times(before[step[1]], step[3]) == share:
            return step[1]
    return place


def greatest_way(steps, k, place):
    shares = greatest_shares(steps, k)
    last = len(shares) - 1
    if place not in shares[last]:
        return None
    at = bring_at(steps, k)
    way = [place]
    for number in range(last, 0, -1):
        here = way[len(way) - 1]
        way.append(place_ahead(steps[at + number], shares[number - 1], here, shares[number][here]))
    way.reverse()
    return (way, shares[last][place])
