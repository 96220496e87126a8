"""Names, and scripts: looked through with a house, and opened to plain deeds."""

from tiercask.errors import NoCask, NoPlace, NoRule, TooMany

LETTERS = "abcdefghijklmnopqrstuvwxyz"
MOST_DEEDS = 200


def is_name(thing):
    if not isinstance(thing, str) or len(thing) < 1 or len(thing) > 8:
        return False
    return all([letter in LETTERS for letter in thing])


def kinds_of(house):
    kinds = {}
    for place in house:
        kinds[place[1]] = place[0]
    return kinds


def wanted(deed):
    # In the order of the words, since the first fault is the one that is told.
    if deed[0] == "year":
        return []
    if deed[0] == "bring":
        return [(deed[2], True)]
    return [(deed[1], True), (deed[2], deed[0] == "fill")]


def check_place(name, kinds, cask):
    kind = kinds.get(name)
    if kind is None:
        raise NoPlace(f"there is no place {name}")
    if cask and kind == "sink":
        raise NoCask(f"{name} is a sink")


def check_plain(deed, kinds):
    places = wanted(deed)
    for name, cask in places:
        check_place(name, kinds, cask)
    if len(places) == 2 and places[0][0] == places[1][0]:
        raise NoCask("nothing goes from a place to itself")


def check_do(deed, kinds, ahead):
    rule = deed[1]
    if rule not in ahead:
        raise NoRule(f"there is no rule {rule} ahead")
    if len(deed[2]) != ahead[rule]:
        raise NoRule(f"the rule {rule} has another number of places")
    for name in deed[2]:
        check_place(name, kinds, False)


def check_deeds(deeds, kinds, ahead):
    for deed in deeds:
        if deed[0] == "times":
            check_deeds(deed[2], kinds, ahead)
        elif deed[0] == "do":
            check_do(deed, kinds, ahead)
        else:
            check_plain(deed, kinds)


def look(house, script):
    ahead = {}
    for rule in script[0]:
        kinds = kinds_of(house)
        for param in rule[1]:
            # A param may come to be a cask or a sink, and hides a place by its name.
            kinds[param] = "param"
        check_deeds(rule[2], kinds, ahead)
        ahead[rule[0]] = len(rule[1])
    check_deeds(script[1], kinds_of(house), ahead)


def many_of(deeds, counts):
    many = 0
    for deed in deeds:
        if deed[0] == "times":
            many += deed[1] * many_of(deed[2], counts)
        elif deed[0] == "do":
            many += counts[deed[1]]
        else:
            many += 1
    return many


def with_places(deed, stead):
    if deed[0] == "year":
        return deed
    if deed[0] == "bring":
        return (deed[0], deed[1], stead.get(deed[2], deed[2]), deed[3])
    return (deed[0], stead.get(deed[1], deed[1]), stead.get(deed[2], deed[2])) + deed[3:]


def unrolled(deeds, stead, bodies):
    plain = []
    for deed in deeds:
        if deed[0] == "times":
            # A rule within a round of 0 times may have too many deeds to have a body.
            if deed[1] > 0:
                plain.extend(unrolled(deed[2], stead, bodies) * deed[1])
        elif deed[0] == "do":
            places = dict(enumerate([stead.get(name, name) for name in deed[2]]))
            plain.extend([with_places(one, places) for one in bodies[deed[1]]])
        else:
            plain.append(with_places(deed, stead))
    return plain


def bodies_of(rules, counts):
    # Numbers stand for params, so that none is taken for a place of the house that has its name.
    bodies = {}
    for rule in rules:
        if counts[rule[0]] <= MOST_DEEDS:
            stead = {}
            for number, param in enumerate(rule[1]):
                stead[param] = number
            bodies[rule[0]] = unrolled(rule[2], stead, bodies)
    return bodies


def opened(house, script):
    counts = {}
    for rule in script[0]:
        counts[rule[0]] = many_of(rule[2], counts)
    if many_of(script[1], counts) > MOST_DEEDS:
        raise TooMany("there are more than 200 plain deeds")
    plain = unrolled(script[1], {}, bodies_of(script[0], counts))
    kinds = kinds_of(house)
    for deed in plain:
        check_plain(deed, kinds)
    return plain
