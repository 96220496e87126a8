import copy
import inspect
import unittest

import plainly
from plainly import HOUSE, chances, own, pair, some_deed, some_row
from tiercask import rounds as module
from tiercask.errors import Full, Lacking, NotSteady
from tiercask.rounds import rounds
from tiercask.totals import totals_of
from tiercask.walk import empty, walk

G0 = ("gamay", 0)
FIRST = {**empty(HOUSE), "a": {("old", 0): (10, 1)}, "b": {("old", 0): (3, 1), ("oldest", 0): (2, 1)}, "c": {("c", 1): (2, 1)}}


def solera():
    lost = (own((10, 1)) - own((5, 3))) / 100
    need = (own((5, 3)) + lost) / 2
    return [("part", "b", "out", (1, 3)), ("fill", "a", "b"), ("part", "a", "air", (1, 100)), ("year",),
            ("bring", "gamay", "a", pair(need)), ("bring", "syrah", "a", pair(need))]


def steady_row(chance, first):
    """A row of deeds, and behind it what leaves the casks' totals as they were."""
    deeds = some_row(chance, HOUSE, 6, first, 3)
    before = totals_of(first)
    after = totals_of(walk(HOUSE, first, 3, deeds)[0][-1])
    for name in ["a", "b", "c"]:
        more = own(after[name]) - own(before[name])
        if more > 0:
            deeds.append(("move", name, "out", pair(more)))
        elif more < 0:
            deeds.append(("bring", "more", name, pair(-more)))
    return deeds


class RoundsTest(unittest.TestCase):
    def test_against_the_walk(self):
        for n in [0, 1, 2, 3, 5, 12]:
            self.assertEqual(rounds(HOUSE, FIRST, 8, solera(), n), walk(HOUSE, FIRST, 8, solera() * n)[0][-1])

    def test_sixty(self):
        self.assertEqual(rounds(HOUSE, FIRST, 0, solera(), 60), walk(HOUSE, FIRST, 0, solera() * 60)[0][-1])

    def test_brings_ahead_of_the_year_and_behind_it(self):
        deeds = [("part", "a", "out", (1, 2)), ("bring", "gamay", "a", (3, 1)), ("year",), ("bring", "gamay", "a", (2, 1)),
                 ("year",)]
        told = rounds(HOUSE, FIRST, 5, deeds, 3)
        self.assertEqual(told, walk(HOUSE, FIRST, 5, deeds * 3)[0][-1])
        self.assertEqual(told["a"], {("old", 0): (5, 4), ("gamay", 5): (3, 4), ("gamay", 6): (1, 2), ("gamay", 7): (3, 2),
                                     ("gamay", 8): (1, 1), ("gamay", 9): (3, 1), ("gamay", 10): (2, 1)})

    def test_without_year_and_without_brings(self):
        deeds = [("part", "a", "out", (1, 2)), ("bring", "gamay", "a", (5, 1))]
        self.assertEqual(rounds(HOUSE, FIRST, 5, deeds, 4), walk(HOUSE, FIRST, 5, deeds * 4)[0][-1])
        self.assertEqual(rounds(HOUSE, FIRST, 5, [("year",)], 60), FIRST)
        self.assertEqual(rounds(HOUSE, FIRST, 5, [], 60), FIRST)
        swap = [("move", "b", "c", (1, 1)), ("move", "c", "b", (1, 1))]
        self.assertEqual(rounds(HOUSE, FIRST, 5, swap, 7), walk(HOUSE, FIRST, 5, swap * 7)[0][-1])

    def test_some_rows(self):
        for chance in chances(40):
            first = walk(HOUSE, empty(HOUSE), 0, some_row(chance, HOUSE, 8))[0][-1]
            deeds = steady_row(chance, first)
            if plainly.can_be_done(HOUSE, first, 3, deeds):
                for n in [0, 1, 4]:
                    self.assertEqual(rounds(HOUSE, first, 3, deeds, n), walk(HOUSE, first, 3, deeds * n)[0][-1])


class RefusedTest(unittest.TestCase):
    def test_not_steady(self):
        for deeds in [[("move", "a", "out", (1, 1))], [("bring", "gamay", "c", (1, 2))], [("move", "a", "c", (1, 1))],
                      [("move", "b", "c", (1, 1)), ("bring", "gamay", "b", (1, 1))]]:
            for n in [0, 1, 60]:
                kept = copy.deepcopy(FIRST)
                with self.assertRaises(NotSteady):
                    rounds(HOUSE, FIRST, 0, deeds, n)
                self.assertEqual(FIRST, kept)

    def test_can_not_be_done(self):
        for error, at, deeds in [(Lacking, 0, [("move", "c", "out", (3, 1))]), (Full, 1, [("year",), ("all", "c", "b")]),
                                 (Full, 1, [("move", "b", "out", (1, 1)), ("bring", "gamay", "a", (1, 1))])]:
            for n in [0, 1, 60]:
                with self.assertRaises(error) as caught:
                    rounds(HOUSE, FIRST, 0, deeds, n)
                self.assertEqual(caught.exception.at, at)

    def test_sinks_may_hold_more(self):
        deeds = [("move", "a", "out", (1, 1)), ("move", "b", "air", (1, 2)), ("bring", "x", "a", (1, 1)), ("bring", "x", "b", (1, 2))]
        self.assertEqual(totals_of(rounds(HOUSE, FIRST, 0, deeds, 10))["out"], (10, 1))
        self.assertEqual(totals_of(rounds(HOUSE, FIRST, 0, deeds, 10))["air"], (5, 1))

    def test_whatever_rows(self):
        for chance in chances(100, 500):
            deeds = [some_deed(chance, HOUSE) for _ in range(3)]
            before = totals_of(FIRST)
            try:
                last = plainly.plain_walk(HOUSE, FIRST, 0, deeds)[0][-1]
            except plainly.Refused as refused:
                with self.assertRaises((Lacking, Full)) as caught:
                    rounds(HOUSE, FIRST, 0, deeds, 0)
                self.assertEqual((type(caught.exception).__name__, caught.exception.at), (refused.word, refused.at))
            else:
                if all(totals_of(last)[name] == before[name] for name in "abc"):
                    self.assertEqual(rounds(HOUSE, FIRST, 0, deeds, 1), last)
                else:
                    with self.assertRaises(NotSteady):
                        rounds(HOUSE, FIRST, 0, deeds, 1)


class OwnTest(unittest.TestCase):
    def test_what_is_handed_in_stays_and_what_was_told_stays(self):
        first, deeds = copy.deepcopy(FIRST), solera()
        for n in [0, 1, 3]:
            told = rounds(HOUSE, first, 0, deeds, n)
            kept = copy.deepcopy(told)
            dicts = list(told.values()) + list(first.values())
            self.assertEqual(len({id(wine) for wine in dicts}), len(dicts))
            first["a"][("late", 0)] = (1, 1)
            self.assertEqual(told, kept)
            del first["a"][("late", 0)]
            for wine in told.values():
                wine.clear()
            self.assertEqual((first, deeds), (FIRST, solera()))

    def test_arguments(self):
        self.assertEqual(list(inspect.signature(module.rounds).parameters), ["house", "standing", "year", "deeds", "n"])


if __name__ == "__main__":
    unittest.main()
