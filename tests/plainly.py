"""Houses, deeds and standings for the tests, and the walk once more by Python's own fractions."""

import random
from fractions import Fraction

HOUSE = [("cask", "a", (10, 1)), ("cask", "b", (5, 1)), ("cask", "c", (7, 2)), ("sink", "out"), ("sink", "air")]
NAMES = ["a", "b", "c", "out", "air"]


class Refused(Exception):
    def __init__(self, word, at):
        Exception.__init__(self, word, at)
        self.word = word
        self.at = at


def pair(number):
    return (number.numerator, number.denominator)


def own(fraction):
    return Fraction(fraction[0], fraction[1])


def rooms(house):
    return {place[1]: own(place[2]) for place in house if place[0] == "cask"}


def taken(deed, wines, room):
    """How much a deed other than bring and year takes, as a number."""
    there = sum(wines[deed[1]].values(), Fraction(0))
    if deed[0] == "move":
        return own(deed[3])
    if deed[0] == "part":
        return there * own(deed[3])
    if deed[0] == "all":
        return there
    return room[deed[2]] - sum(wines[deed[2]].values(), Fraction(0))


def do_deed(deed, at, wines, year, room):
    if deed[0] == "bring":
        amount = own(deed[3])
        if sum(wines[deed[2]].values(), amount) > room[deed[2]]:
            raise Refused("Full", at)
        wines[deed[2]][(deed[1], year)] = wines[deed[2]].get((deed[1], year), Fraction(0)) + amount
        return
    source, target = wines[deed[1]], wines[deed[2]]
    there = sum(source.values(), Fraction(0))
    amount = taken(deed, wines, room)
    if amount > there:
        raise Refused("Lacking", at)
    if deed[2] in room and sum(target.values(), amount) > room[deed[2]]:
        raise Refused("Full", at)
    if amount:
        for lot in list(source):
            moved = source[lot] * amount / there
            source[lot] -= moved
            target[lot] = target.get(lot, Fraction(0)) + moved


def as_told(wines):
    return {name: {lot: pair(amount) for lot, amount in wine.items() if amount} for name, wine in wines.items()}


def plain_walk(house, standing, year, deeds):
    room = rooms(house)
    wines = {name: {lot: own(amount) for lot, amount in wine.items()} for name, wine in standing.items()}
    standings = [as_told(wines)]
    for at, deed in enumerate(deeds):
        if deed[0] == "year":
            year += 1
        else:
            do_deed(deed, at, wines, year, room)
        standings.append(as_told(wines))
    return standings, year


def some_amount(chance, most=6):
    bottom = chance.choice([1, 1, 2, 3, 4, 5])
    return pair(Fraction(chance.randint(1, most * bottom), bottom))


def some_share(chance):
    return pair(Fraction(chance.randint(0, 6), 6))


def some_deed(chance, house):
    casks = [place[1] for place in house if place[0] == "cask"]
    kind = chance.choice(["bring", "bring", "move", "part", "all", "fill", "year"])
    if kind == "year":
        return ("year",)
    x = chance.choice(casks)
    if kind == "bring":
        return ("bring", chance.choice(["gamay", "syrah"]), x, some_amount(chance))
    others = casks if kind == "fill" else [place[1] for place in house]
    y = chance.choice([name for name in others if name != x])
    if kind == "move":
        return ("move", x, y, some_amount(chance))
    if kind == "part":
        return ("part", x, y, some_share(chance))
    return (kind, x, y)


def can_be_done(house, standing, year, deeds):
    try:
        plain_walk(house, standing, year, deeds)
    except Refused:
        return False
    return True


def some_row(chance, house, many, standing=None, year=0):
    """A row of many deeds that can be done."""
    standing = standing if standing is not None else {place[1]: {} for place in house}
    deeds = []
    while len(deeds) < many:
        deed = some_deed(chance, house)
        if can_be_done(house, standing, year, [deed]):
            standings, year = plain_walk(house, standing, year, [deed])
            standing = standings[1]
            deeds.append(deed)
    return deeds


def chances(many, first=0):
    return [random.Random(number) for number in range(first, first + many)]
