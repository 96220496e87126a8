"""Labels: lists of conditions, kept by a wine or not, and what lacks."""

from tiercask.picks import means
from tiercask.shares import minus, over, plus, times, under
from tiercask.wines import total


def weight(condition, lot, now):
    if condition[0] == "mean":
        return minus((now - lot[1], 1), condition[1])
    meant = (1, 1) if means(condition[2], lot, now) else (0, 1)
    if condition[0] == "most":
        return minus(condition[1], meant)
    return minus(meant, condition[1])


def balance(condition, wine, now):
    # The sum of all amounts times their lots' weights: a condition is kept where it is not below 0.
    whole = (0, 1)
    for lot, amount in wine.items():
        whole = plus(whole, times(amount, weight(condition, lot, now)))
    return whole


def kept(label, wine, now):
    return all([balance(condition, wine, now)[0] >= 0 for condition in label])


def least_amount(label, wine, other, now):
    # The balances go with the added amount in straight lines, and where one rises it is kept from where it is 0.
    # Behind the greatest of these points no rising one is broken, so if any amount is enough, this one is.
    whole = total(other)
    least = (0, 1)
    for condition in label:
        there = balance(condition, wine, now)
        added = over(balance(condition, other, now), whole)
        if there[0] < 0 and added[0] > 0:
            point = over(minus((0, 1), there), added)
            if under(least, point):
                least = point
    return least


def kept_with(label, wine, other, amount, now):
    whole = total(other)
    for condition in label:
        added = times(balance(condition, other, now), over(amount, whole))
        if plus(balance(condition, wine, now), added)[0] < 0:
            return False
    return True


def lacks(label, wine, other, now):
    if kept(label, wine, now):
        return (0, 1)
    if len(other) == 0:
        return None
    least = least_amount(label, wine, other, now)
    if under(total(other), least) or not kept_with(label, wine, other, least, now):
        return None
    return least
