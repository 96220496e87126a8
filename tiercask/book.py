"""A book of a house: a row of plain deeds, put, struck and undone."""

from tiercask.errors import Full, Lacking, NoCask, NoChange, NoDeed, NoPlace, Tied
from tiercask.scripts import check_plain, is_name, kinds_of
from tiercask.shares import is_fraction, is_whole, under
from tiercask.totals import copied, gone, steps_of, totals_of
from tiercask.walk import empty

LENGTHS = {"bring": 4, "move": 4, "part": 4, "all": 3, "fill": 3, "year": 1}


def is_measure(kind, thing):
    if not is_fraction(thing) or thing[0] < 0:
        return False
    if kind == "part":
        return not under((1, 1), thing)
    return thing != (0, 1)


def has_form(thing):
    if not isinstance(thing, tuple) or len(thing) == 0 or not isinstance(thing[0], str):
        return False
    if thing[0] not in LENGTHS or len(thing) != LENGTHS[thing[0]]:
        return False
    if thing[0] == "bring" and not is_name(thing[1]):
        return False
    if not all([isinstance(word, str) for word in thing[1:3]]):
        return False
    return len(thing) < 4 or is_measure(thing[0], thing[3])


def check_deed(thing, kinds):
    if not has_form(thing):
        raise NoDeed("this is no plain deed")
    try:
        check_plain(thing, kinds)
    except NoPlace:
        raise NoDeed("a place is none of this house")
    except NoCask:
        raise NoDeed("a place does not fit")


class Book:
    def __init__(self, house, year=0):
        self.places = list(house)
        self.row = []
        self.taken = []
        self.wines = empty(house)
        self.now = year
        self.first = year
        self.past = []

    def put(self, deeds):
        kinds = kinds_of(self.places)
        for deed in deeds:
            check_deed(deed, kinds)
        try:
            walked = steps_of(self.places, totals_of(self.wines), self.now, deeds)
        except Lacking as e:
            raise Lacking(e.at + len(self.row))
        except Full as e:
            raise Full(e.at + len(self.row))
        self.keep()
        self.row = self.row + list(deeds)
        self.taken = self.taken + walked[0]
        self.wines = gone(self.wines, walked[0])
        self.now += deeds.count(("year",))

    def strike(self, k):
        if not is_whole(k) or k < 0 or k >= len(self.row):
            raise NoDeed("this is no number of a deed")
        row = self.row[:k] + self.row[k + 1:]
        nothing = empty(self.places)
        # What is ahead of the deed struck can be done as before, so a refusal is of a later one.
        try:
            walked = steps_of(self.places, totals_of(nothing), self.first, row)
        except Lacking as e:
            raise Tied(e.at + 1)
        except Full as e:
            raise Tied(e.at + 1)
        self.keep()
        self.row = row
        self.taken = walked[0]
        self.wines = gone(nothing, walked[0])
        self.now = self.first + row.count(("year",))

    def keep(self):
        self.past.append((self.row, self.taken, self.wines, self.now))

    def undo(self):
        if len(self.past) == 0:
            raise NoChange("there is nothing to undo")
        before = self.past.pop()
        self.row = before[0]
        self.taken = before[1]
        self.wines = before[2]
        self.now = before[3]

    def deeds(self):
        return list(self.row)

    def standing(self):
        return copied(self.wines)

    def year(self):
        return self.now

    def steps(self):
        return list(self.taken)
