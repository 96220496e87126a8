"""Blends, and the papers that show that none is cheaper or that there is none."""

from tiercask.labels import balance
from tiercask.shares import is_fraction, minus, over, plus, sum_of, times, under
from tiercask.wines import total


def weights_in(offer, label, now):
    # For each condition a row: its weight in each wine of the offer.
    rows = []
    for condition in label:
        rows.append([over(balance(condition, wine, now), total(wine)) for wine, price in offer])
    return rows


def product_sum(some, others):
    return sum_of([times(one, other) for one, other in zip(some, others)])


def is_blend(offer, wish, now, amounts):
    for pair, amount in zip(offer, amounts):
        if amount[0] < 0 or under(total(pair[0]), amount):
            return False
    if sum_of(amounts) != wish[0]:
        return False
    return all([product_sum(row, amounts)[0] >= 0 for row in weights_in(offer, wish[1], now)])


def are_fractions(thing, many):
    return isinstance(thing, list) and len(thing) == many and all([is_fraction(one) for one in thing])


def are_from_0(thing, many):
    return are_fractions(thing, many) and all([one[0] >= 0 for one in thing])


def is_paper(offer, wish, paper):
    if not isinstance(paper, tuple) or len(paper) != 3 or not is_fraction(paper[0]):
        return False
    return are_from_0(paper[1], len(wish[1])) and are_from_0(paper[2], len(offer))


def none_above(offer, wish, now, paper, bounds):
    # Whether for no wine its worth less its w is above its bound.
    rows = weights_in(offer, wish[1], now)
    for j, bound in enumerate(bounds):
        worth = plus(paper[0], product_sum([row[j] for row in rows], paper[1]))
        if under(bound, minus(worth, paper[2][j])):
            return False
    return True


def shown_by(offer, wish, paper):
    wholes = [total(wine) for wine, price in offer]
    return minus(times(paper[0], wish[0]), product_sum(paper[2], wholes))


def lets_blend_by(offer, wish, now, amounts, paper):
    if not are_fractions(amounts, len(offer)) or not is_paper(offer, wish, paper):
        return False
    prices = [price for wine, price in offer]
    if not is_blend(offer, wish, now, amounts) or not none_above(offer, wish, now, paper, prices):
        return False
    return shown_by(offer, wish, paper) == product_sum(amounts, prices)


def lets_none_by(offer, wish, now, paper):
    if not is_paper(offer, wish, paper) or not none_above(offer, wish, now, paper, [(0, 1)] * len(offer)):
        return False
    return shown_by(offer, wish, paper)[0] > 0


def lets_by(offer, wish, now, some):
    if not isinstance(some, tuple) or len(some) == 0 or not isinstance(some[0], str):
        return False
    if some[0] == "blend" and len(some) == 3:
        return lets_blend_by(offer, wish, now, some[1], some[2])
    if some[0] == "none" and len(some) == 2:
        return lets_none_by(offer, wish, now, some[1])
    return False
