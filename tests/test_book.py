import copy
import inspect
import unittest

import plainly
from plainly import HOUSE, chances, some_deed, some_row
from tiercask.book import Book
from tiercask.errors import Full, Lacking, NoChange, NoDeed, Tied
from tiercask.totals import steps_of, totals_of
from tiercask.walk import empty, walk

G0 = ("gamay", 0)
ROW = [("bring", "gamay", "a", (4, 1)), ("part", "a", "b", (1, 2)), ("year",), ("bring", "gamay", "b", (1, 1)),
       ("move", "b", "out", (3, 1))]


def book_of(*lists, house=HOUSE, year=0):
    book = Book(house, year)
    for deeds in lists:
        book.put(list(deeds))
    return book


def told(book):
    return copy.deepcopy((book.deeds(), book.standing(), book.year(), book.steps()))


def expected(deeds, year=0):
    standings, last = walk(HOUSE, empty(HOUSE), year, deeds)
    return (deeds, standings[-1], last, steps_of(HOUSE, totals_of(empty(HOUSE)), year, deeds)[0])


class PutTest(unittest.TestCase):
    def test_a_new_book(self):
        self.assertEqual(told(Book(HOUSE)), ([], empty(HOUSE), 0, []))
        self.assertEqual(told(Book(HOUSE, 1999)), ([], empty(HOUSE), 1999, []))
        self.assertEqual(told(Book(HOUSE, year=7)), ([], empty(HOUSE), 7, []))

    def test_lists(self):
        self.assertEqual(told(book_of(ROW)), expected(ROW))
        self.assertEqual(told(book_of(ROW[:2], [], ROW[2:])), expected(ROW))
        self.assertEqual(told(book_of(*[[deed] for deed in ROW], year=8)), expected(ROW, 8))
        self.assertIsNone(Book(HOUSE).put(ROW))
        self.assertIsNone(Book(HOUSE).put([]))

    def test_some_rows(self):
        for chance in chances(30):
            deeds = some_row(chance, HOUSE, 20)
            cut = chance.randint(0, 20)
            self.assertEqual(told(book_of(deeds[:cut], deeds[cut:])), expected(deeds))

    def test_all_or_none(self):
        for error, at, deeds in [(Lacking, 7, [("year",), ("bring", "x", "c", (1, 1)), ("move", "a", "c", (5, 2))]),
                                 (Full, 6, [("bring", "x", "a", (1, 1)), ("bring", "x", "a", (10, 1)), ("year",)]),
                                 (Lacking, 5, [("fill", "b", "a")])]:
            book = book_of(ROW)
            kept = told(book)
            with self.assertRaises(error) as caught:
                book.put(deeds)
            self.assertEqual(caught.exception.at, at)
            self.assertEqual(told(book), kept)
            book.undo()
            self.assertEqual(told(book), told(Book(HOUSE)))

    def test_no_deed(self):
        for thing in no_deeds():
            for deeds in [[thing], [("year",), thing], [thing, ("year",)], [("move", "a", "out", (9, 1)), thing],
                          [("bring", "x", "a", (99, 1)), ("year",), thing]]:
                book = book_of(ROW)
                kept = told(book)
                with self.assertRaises(NoDeed):
                    book.put(deeds)
                self.assertEqual(told(book), kept)

    def test_shares_at_their_ends(self):
        book = book_of(ROW)
        book.put([("part", "a", "b", (0, 1)), ("part", "a", "b", (1, 1)), ("part", "a", "out", (1, 2))])
        self.assertEqual(book.deeds()[5:], [("part", "a", "b", (0, 1)), ("part", "a", "b", (1, 1)), ("part", "a", "out", (1, 2))])


def no_deeds():
    ring = []
    ring.append(ring)
    bad = [None, True, 0, 1.5, b"a", "", "A", "abcdefghi", "a\n", ["a"], ("a",), {}, {"a"}, object(), ring, "d", Ellipsis]
    amounts = [None, True, 1, "1", (0, 1), (-1, 1), (2, 4), (1, 0), (1, -1), [1, 1], (1,), (1, 1, 1), (True, 1), (1, True),
               (1.0, 1), ("1", "1"), {}, ring, (0, 2)]
    things = [None, True, False, 0, 1.5, "", "year", b"year", [], {}, (), ring, object(), ["year"], ("years",), ("year", 1),
              ("year", None), (1,), (None,), (("year",),), ("Year",), ("times", 1, ()), ("times", 1, (("year",),)),
              ("do", "r", ("a",)), (["year"],), ({},), (b"year",), ("bring",), ("move",), ("all",), ("fill",),
              ("bring", "x", "a"), ("bring", "x", "a", (1, 1), 1), ("move", "a", "b"), ("move", "a", "b", (1, 1), (1, 1)),
              ("part", "a", "b"), ("part", "a", "b", (1, 2), 0), ("all", "a"), ("all", "a", "b", (1, 1)), ("fill", "a"),
              ("fill", "a", "b", (1, 1)), ("part", "a", "b", (3, 2)), ("part", "a", "b", (1000001, 1000000)),
              ("bring", "x", "out", (1, 1)), ("move", "out", "a", (1, 1)), ("part", "out", "a", (1, 2)), ("all", "out", "a"),
              ("fill", "out", "a"), ("fill", "a", "out"), ("move", "a", "a", (1, 1)), ("part", "a", "a", (1, 2)),
              ("all", "a", "a"), ("fill", "a", "a"), ("pass", "a", "b", (1, 2)), ("bring", G0, "a", (1, 1))]
    for one in bad:
        things += [("bring", "x", one, (1, 1)), ("move", one, "b", (1, 1)), ("move", "a", one, (1, 1)),
                   ("part", one, "b", (1, 2)), ("part", "a", one, (1, 2)), ("all", one, "b"), ("all", "a", one),
                   ("fill", one, "b"), ("fill", "a", one), (one, "a", "b"), (one, "a", "b", (1, 1))]
        if one != "d":
            things.append(("bring", one, "a", (1, 1)))
    for one in amounts:
        things += [("bring", "x", "a", one), ("move", "a", "b", one)]
        if one != (0, 1):
            things.append(("part", "a", "b", one))
    return things


class StrikeTest(unittest.TestCase):
    def test_first_amid_last(self):
        row = [("bring", "gamay", "a", (4, 1)), ("bring", "syrah", "a", (3, 1)), ("year",), ("bring", "gamay", "b", (1, 1)),
               ("part", "a", "b", (1, 2))]
        for k in range(5):
            book = book_of(row)
            self.assertIsNone(book.strike(k))
            self.assertEqual(told(book), expected(row[:k] + row[k + 1:]))

    def test_several(self):
        book = book_of(ROW, year=4)
        book.strike(4)
        book.strike(2)
        book.strike(0)
        self.assertEqual(told(book), expected([ROW[1], ROW[3]], 4))
        book.put([("year",)])
        self.assertEqual(told(book), expected([ROW[1], ROW[3], ("year",)], 4))

    def test_tied(self):
        for k, at in [(0, 4), (3, 4), (1, 4)]:
            book = book_of(ROW)
            kept = told(book)
            with self.assertRaises(Tied) as caught:
                book.strike(k)
            self.assertEqual(caught.exception.at, at)
            self.assertEqual(told(book), kept)

    def test_tied_by_room(self):
        book = book_of([("bring", "x", "b", (5, 1)), ("all", "b", "out"), ("year",), ("bring", "x", "b", (1, 1))])
        with self.assertRaises(Tied) as caught:
            book.strike(1)
        self.assertEqual(caught.exception.at, 3)

    def test_like_the_book_in_which_it_never_was(self):
        tied = 0
        for chance in chances(60):
            row = some_row(chance, HOUSE, 12)
            for k in range(12):
                book = book_of(row)
                rest = row[:k] + row[k + 1:]
                try:
                    plainly.plain_walk(HOUSE, empty(HOUSE), 0, rest)
                except plainly.Refused as refused:
                    tied += 1
                    with self.assertRaises(Tied) as caught:
                        book.strike(k)
                    self.assertEqual(caught.exception.at, refused.at + 1)
                    self.assertEqual(told(book), expected(row))
                else:
                    book.strike(k)
                    self.assertEqual(told(book), told(book_of(rest)))
        self.assertGreater(tied, 50)

    def test_no_number_of_a_deed(self):
        book = book_of(ROW)
        kept = told(book)
        for thing in [-1, 5, 6, 10 ** 30, True, False, None, "0", "", 0.0, 1.5, b"0", [], [0], (0,), {}, object(), ("year",)]:
            with self.assertRaises(NoDeed):
                book.strike(thing)
            self.assertEqual(told(book), kept)
        with self.assertRaises(NoDeed):
            Book(HOUSE).strike(0)


class UndoTest(unittest.TestCase):
    def test_in_turn(self):
        book = Book(HOUSE, 3)
        before = [told(book)]
        for change in [lambda: book.put(ROW[:3]), lambda: book.put([]), lambda: book.put(ROW[3:]), lambda: book.strike(4),
                       lambda: book.strike(2), lambda: book.put([("year",)]), lambda: book.strike(0)]:
            change()
            before.append(told(book))
        for state in reversed(before[:-1]):
            self.assertIsNone(book.undo())
            self.assertEqual(told(book), state)
        with self.assertRaises(NoChange):
            book.undo()
        self.assertEqual(told(book), before[0])

    def test_changes_behind_an_undoing(self):
        book = book_of(ROW)
        book.strike(4)
        book.undo()
        book.undo()
        book.put(ROW[:1])
        self.assertEqual(told(book), expected(ROW[:1]))
        book.undo()
        with self.assertRaises(NoChange):
            book.undo()

    def test_what_was_refused_is_not_undone(self):
        book = book_of(ROW[:1])
        for refused in [lambda: book.put([("bring", "x", "a", (99, 1))]), lambda: book.put([None]), lambda: book.strike(7)]:
            with self.assertRaises((Full, NoDeed)):
                refused()
        book.undo()
        with self.assertRaises(NoChange):
            book.undo()

    def test_nothing_done(self):
        with self.assertRaises(NoChange):
            Book(HOUSE).undo()


class OwnTest(unittest.TestCase):
    def test_houses_and_lists_changed_behind_the_call(self):
        house, deeds = list(HOUSE), list(ROW)
        book = Book(house)
        book.put(deeds)
        house.clear()
        deeds.clear()
        self.assertEqual(told(book), expected(ROW))
        book.put([("part", "a", "c", (1, 2))])
        self.assertEqual(told(book), expected(ROW + [("part", "a", "c", (1, 2))]))

    def test_what_was_told_changed(self):
        book = book_of(ROW)
        book.deeds().clear()
        book.steps().clear()
        standing = book.standing()
        for wine in standing.values():
            wine[G0] = (99, 1)
        standing.clear()
        self.assertEqual(told(book), expected(ROW))

    def test_what_was_told_stays(self):
        book = book_of(ROW[:1])
        row, standing, steps = book.deeds(), book.standing(), book.steps()
        book.put(ROW[1:])
        book.strike(4)
        book.undo()
        self.assertEqual((row, standing, steps), (expected(ROW[:1])[0], expected(ROW[:1])[1], expected(ROW[:1])[3]))

    def test_two_books_are_apart(self):
        one, other = Book(HOUSE), Book(HOUSE)
        one.put(ROW)
        self.assertEqual(told(other), told(Book(HOUSE)))

    def test_nothing_is_changed_by_an_undone_putting(self):
        book = book_of(ROW)
        standing = book.standing()
        for chance in chances(20):
            deed = some_deed(chance, HOUSE)
            try:
                book.put([deed])
            except (Lacking, Full):
                continue
            book.undo()
            self.assertEqual(book.standing(), standing)

    def test_arguments(self):
        self.assertEqual(str(inspect.signature(Book)), "(house, year=0)")
        for name, arguments in [("put", ["deeds"]), ("strike", ["k"]), ("undo", []), ("deeds", []), ("standing", []),
                                ("year", []), ("steps", [])]:
            self.assertEqual(list(inspect.signature(getattr(Book, name)).parameters), ["self"] + arguments)


if __name__ == "__main__":
    unittest.main()
