"""The whole promise: whichever way it is told, it comes to the same."""

import unittest

import plainly
from plainly import HOUSE, NAMES, chances, own, pair, some_row
from tiercask.book import Book
from tiercask.desk import Desk
from tiercask.errors import Tied
from tiercask.reader import read
from tiercask.scripts import look, opened
from tiercask.tables import brought, table, through
from tiercask.totals import gone, steps_of, totals_of
from tiercask.traces import back, forth
from tiercask.walk import empty, walk
from tiercask.ways import greatest_way
from tiercask.wines import part_of, poured, told, total
from tiercask.writer import shown


def number(fraction):
    return str(own(fraction))


def wine_text(wine):
    return "; ".join([f"{name} {year} {number(amount)}" for (name, year), amount in told(wine)]) or "none"


def place_rows():
    return [f"cask {place[1]} {number(place[2])}" if place[0] == "cask" else f"sink {place[1]}" for place in HOUSE]


def as_script(chance, deeds):
    """A script that is opened to these deeds: some of them in rules or in rounds."""
    rules, row = [], []
    for at, deed in enumerate(deeds):
        kind = chance.randint(0, 3)
        if kind == 0:
            row.append(("times", 1, (deed,)))
        elif kind == 1 and deed[0] in ("move", "part", "all", "fill"):
            name = "r" + "abcdefghijklmnopqrstuvwxyz"[at]
            rules.append((name, ("out", "p"), (deed[:1] + ("p", "out") + deed[3:],)))
            row.append(("do", name, (deed[2], deed[1])))
        elif kind == 2:
            row.extend([("times", 0, (deed, deed)), deed])
        else:
            row.append(deed)
    return (tuple(rules), tuple(row))


class WholeTest(unittest.TestCase):
    def by_tables(self, steps):
        last = through(table(NAMES, steps), empty(HOUSE))
        for lot, amount, ends in brought(NAMES, steps):
            for place, share in ends.items():
                last[place] = poured(last[place], part_of({lot: amount}, share))
        return last

    def test_by_text_walk_totals_tables_book_and_desk(self):
        for chance in chances(40):
            deeds = some_row(chance, HOUSE, 20)
            script = as_script(chance, deeds)
            text = shown(script)
            self.assertEqual(read(text), script)
            self.assertIsNone(look(HOUSE, script))
            self.assertEqual(opened(HOUSE, script), deeds)
            standings, year = walk(HOUSE, empty(HOUSE), 0, deeds)
            last = standings[-1]
            self.assertEqual((standings, year), plainly.plain_walk(HOUSE, empty(HOUSE), 0, deeds))
            steps, totals = steps_of(HOUSE, totals_of(empty(HOUSE)), 0, deeds)
            self.assertEqual(totals, totals_of(last))
            self.assertEqual(gone(empty(HOUSE), steps), last)
            self.assertEqual(self.by_tables(steps), last)
            book = Book(HOUSE)
            book.put(deeds)
            self.assertEqual((book.standing(), book.year(), book.steps()), (last, year, steps))
            self.desk_tells(text, deeds, last, year, steps)

    def desk_tells(self, text, deeds, last, year, steps):
        desk = Desk()
        for row in place_rows() + ["run " + text.replace("\n", "; ")]:
            self.assertEqual(desk.say(row), "ok")
        self.assertEqual((desk.say("year"), desk.say("deeds")), (str(year), str(len(deeds))))
        for name in NAMES:
            self.assertEqual(desk.say(f"show {name}"), wine_text(last[name]))
            self.assertEqual(desk.say(f"total {name}"), number(total(last[name])))
            pairs = back(NAMES, steps, name)
            self.assertEqual(desk.say(f"back {name}"), "; ".join([f"{k} {number(share)}" for k, share in pairs]) or "none")
        for k in range(len([step for step in steps if step[0] == "bring"])):
            ends = forth(NAMES, steps, k)
            self.assertEqual(desk.say(f"forth {k}"),
                             "; ".join([f"{name} {number(ends[name])}" for name in NAMES if name in ends]))
            for name in NAMES:
                found = greatest_way(steps, k, name)
                self.assertEqual(found is None, name not in ends)
                self.assertEqual(desk.say(f"way {k} {name}"), "none" if found is None else " ".join(found[0]))

    def test_struck_out_is_never_there(self):
        struck = 0
        for chance in chances(20, 300):
            deeds = some_row(chance, HOUSE, 12)
            text = shown(((), tuple(deeds))).replace("\n", "; ")
            for k in range(12):
                book, desk = Book(HOUSE), Desk()
                book.put(deeds)
                for row in place_rows() + ["run " + text]:
                    desk.say(row)
                rest = deeds[:k] + deeds[k + 1:]
                if not plainly.can_be_done(HOUSE, empty(HOUSE), 0, rest):
                    with self.assertRaises(Tied) as one:
                        book.strike(k)
                    with self.assertRaises(Tied) as other:
                        desk.say(f"strike {k}")
                    self.assertEqual(one.exception.at, other.exception.at)
                    continue
                struck += 1
                book.strike(k)
                self.assertEqual(desk.say(f"strike {k}"), "ok")
                never = Book(HOUSE)
                never.put(rest)
                self.assertEqual((book.deeds(), book.standing(), book.year(), book.steps()),
                                 (never.deeds(), never.standing(), never.year(), never.steps()))
                for name in NAMES:
                    self.assertEqual(desk.say(f"show {name}"), wine_text(never.standing()[name]))
        self.assertGreater(struck, 50)

    def test_what_came_somewhere_has_a_way(self):
        for chance in chances(20, 600):
            steps = steps_of(HOUSE, totals_of(empty(HOUSE)), 0, some_row(chance, HOUSE, 30))[0]
            for k in range(len([step for step in steps if step[0] == "bring"])):
                for place, share in forth(NAMES, steps, k).items():
                    way, greatest = greatest_way(steps, k, place)
                    self.assertEqual(way[-1], place)
                    self.assertLessEqual(own(greatest), own(share))
                    self.assertEqual(pair(own(greatest)), greatest)


if __name__ == "__main__":
    unittest.main()
