"""Picks: which lots are meant, in a year of now."""


def means(pick, lot, now):
    if pick[0] == "name":
        return lot[0] == pick[1]
    if pick[0] == "years":
        return pick[1] <= lot[1] and lot[1] <= pick[2]
    if pick[0] == "old":
        return now - lot[1] >= pick[1]
    if pick[0] == "both":
        return means(pick[1], lot, now) and means(pick[2], lot, now)
    if pick[0] == "one":
        return means(pick[1], lot, now) or means(pick[2], lot, now)
    return not means(pick[1], lot, now)
