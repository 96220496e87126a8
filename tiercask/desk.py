"""A desk that is told rows and answers each with a text."""

from tiercask.blends import blend
from tiercask.book import Book
from tiercask.errors import NoCask, NoChange, NoDeed, NoName, TooMany
from tiercask.labels import kept, lacks
from tiercask.longrun import casks_of, names_of
from tiercask.reader import read
from tiercask.rows import row_read
from tiercask.scripts import is_name, kinds_of, look, opened
from tiercask.traces import back, forth
from tiercask.ways import greatest_way
from tiercask.wines import told, total
from tiercask.writer import number_shown

MOST_PLACES = 20
MOST_CASKS = 12


def wine_shown(wine):
    parts = []
    for lot, amount in told(wine):
        name = lot[0]
        year = lot[1]
        number = number_shown(amount)
        parts.append(f"{name} {year} {number}")
    return listed(parts)


def listed(parts):
    return "; ".join(parts) if len(parts) > 0 else "none"


def number_or_none(number):
    return "none" if number is None else number_shown(number)


def shares_shown(pairs):
    parts = []
    for name, share in pairs:
        number = number_shown(share)
        parts.append(f"{name} {number}")
    return listed(parts)


def check_known(desk, name):
    if name not in kinds_of(desk.house):
        raise NoName("there is no place by this name")


def check_bring(desk, k):
    if k >= len([step for step in desk.book.steps() if step[0] == "bring"]):
        raise NoDeed("there is no bring by this number")


def label_by(desk, name):
    if name not in desk.labels:
        raise NoName("there is no label by this name")
    return desk.labels[name]


def wine_in(desk, name):
    check_known(desk, name)
    return desk.book.standing()[name]


def make_place(desk, place):
    if desk.begun:
        raise NoChange("places are made ahead of the first putting")
    if not is_name(place[1]) or place[1] in kinds_of(desk.house):
        raise NoName("this is no name of a new place")
    if len(desk.house) == MOST_PLACES or (place[0] == "cask" and len(casks_of(desk.house)) == MOST_CASKS):
        raise TooMany("there are no more places or casks than these")
    desk.house = desk.house + [place]
    desk.book = Book(desk.house)
    return "ok"


def say_cask(desk, words):
    return make_place(desk, ("cask", words[1], words[2]))


def say_sink(desk, words):
    return make_place(desk, ("sink", words[1]))


def say_run(desk, words):
    if len(casks_of(desk.house)) == 0:
        raise NoChange("nothing is run without any cask")
    script = read(words[1].replace("; ", "\n"))
    look(desk.house, script)
    desk.book.put(opened(desk.house, script))
    desk.begun = True
    return "ok"


def say_strike(desk, words):
    desk.book.strike(words[1])
    return "ok"


def say_undo(desk, words):
    desk.book.undo()
    return "ok"


def say_label(desk, words):
    if not is_name(words[1]):
        raise NoName("this is no name of a label")
    desk.labels[words[1]] = words[2]
    return "ok"


def say_year(desk, words):
    return str(desk.book.year())


def say_deeds(desk, words):
    return str(len(desk.book.deeds()))


def say_show(desk, words):
    return wine_shown(wine_in(desk, words[1]))


def say_total(desk, words):
    return number_shown(total(wine_in(desk, words[1])))


def say_forth(desk, words):
    check_bring(desk, words[1])
    names = names_of(desk.house)
    ends = forth(names, desk.book.steps(), words[1])
    return shares_shown([(name, ends[name]) for name in names if name in ends])


def say_back(desk, words):
    check_known(desk, words[1])
    return shares_shown(back(names_of(desk.house), desk.book.steps(), words[1]))


def say_way(desk, words):
    check_bring(desk, words[1])
    check_known(desk, words[2])
    found = greatest_way(desk.book.steps(), words[1], words[2])
    return "none" if found is None else " ".join(found[0])


def say_kept(desk, words):
    label = label_by(desk, words[1])
    return "yes" if kept(label, wine_in(desk, words[2]), desk.book.year()) else "no"


def say_lacks(desk, words):
    label = label_by(desk, words[1])
    wine = wine_in(desk, words[2])
    other = wine_in(desk, words[3])
    return number_or_none(lacks(label, wine, other, desk.book.year()))


def offer_of(desk, pairs):
    offer = []
    used = {}
    for name, price in pairs:
        wine = wine_in(desk, name)
        if name not in casks_of(desk.house) or name in used or len(wine) == 0:
            raise NoCask("a blend is of unlike casks with wine")
        used[name] = True
        offer.append((wine, price))
    return offer


def say_blend(desk, words):
    label = label_by(desk, words[1])
    found = blend(offer_of(desk, words[3]), (words[2], label), desk.book.year())
    if found[0] == "none":
        return "none"
    return " ".join([number_shown(amount) for amount in found[1]])


ANSWERS = {
    "cask": say_cask, "sink": say_sink, "run": say_run, "strike": say_strike, "undo": say_undo, "label": say_label,
    "year": say_year, "deeds": say_deeds, "show": say_show, "total": say_total, "forth": say_forth, "back": say_back,
    "way": say_way, "kept": say_kept, "lacks": say_lacks, "blend": say_blend,
}


class Desk:
    def __init__(self):
        self.house = []
        self.book = Book([])
        self.labels = {}
        self.begun = False

    def say(self, row):
        words = row_read(row)
        return ANSWERS[words[0]](self, words)
