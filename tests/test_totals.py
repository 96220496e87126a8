import copy
import inspect
import unittest

import plainly
from plainly import HOUSE, NAMES, chances, some_deed, some_row
from tiercask import errors, totals as module
from tiercask.errors import Full, Lacking
from tiercask.shares import is_fraction
from tiercask.totals import gone, steps_of, totals_of
from tiercask.walk import empty, walk

G0, S0 = ("gamay", 0), ("syrah", 0)


def totals(**amounts):
    return {name: amounts.get(name, (0, 1)) for name in NAMES}


class TotalsOfTest(unittest.TestCase):
    def test_totals(self):
        one = empty(HOUSE)
        self.assertEqual(totals_of(one), totals())
        one["a"] = {G0: (1, 2), S0: (1, 3)}
        one["air"] = {G0: (7, 1)}
        self.assertEqual(totals_of(one), totals(a=(5, 6), air=(7, 1)))


class StepsOfTest(unittest.TestCase):
    def steps(self, first, deeds, year=0):
        return steps_of(HOUSE, first, year, deeds)

    def test_each_deed(self):
        first = totals(a=(8, 1), b=(3, 1))
        for deed, step, last in [
                (("bring", "gamay", "a", (1, 2)), ("bring", ("gamay", 7), "a", (1, 2)), totals(a=(17, 2), b=(3, 1))),
                (("move", "a", "b", (2, 1)), ("pass", "a", "b", (1, 4)), totals(a=(6, 1), b=(5, 1))),
                (("part", "a", "c", (1, 3)), ("pass", "a", "c", (1, 3)), totals(a=(16, 3), b=(3, 1), c=(8, 3))),
                (("all", "b", "out"), ("pass", "b", "out", (1, 1)), totals(a=(8, 1), out=(3, 1))),
                (("fill", "a", "b"), ("pass", "a", "b", (1, 4)), totals(a=(6, 1), b=(5, 1)))]:
            self.assertEqual(self.steps(first, [deed], 7), ([step], last))

    def test_no_step_for_year(self):
        self.assertEqual(self.steps(totals(), [("year",), ("year",)]), ([], totals()))
        self.assertEqual(self.steps(totals(), []), ([], totals()))
        deeds = [("year",), ("bring", "gamay", "a", (1, 1)), ("year",), ("bring", "gamay", "a", (1, 1))]
        self.assertEqual(self.steps(totals(), deeds, 5)[0],
                         [("bring", ("gamay", 6), "a", (1, 1)), ("bring", ("gamay", 7), "a", (1, 1))])

    def test_nothing_in_x(self):
        first = totals(b=(5, 1))
        self.assertEqual(self.steps(first, [("part", "a", "b", (1, 3)), ("all", "a", "b"), ("fill", "a", "b")]),
                         ([("pass", "a", "b", (1, 3)), ("pass", "a", "b", (1, 1)), ("pass", "a", "b", (0, 1))], first))
        self.assertEqual(self.steps(totals(a=(1, 1), b=(5, 1)), [("fill", "a", "b")])[0], [("pass", "a", "b", (0, 1))])

    def test_refused(self):
        for error, at, first, deeds in [
                (Lacking, 0, totals(a=(1, 1)), [("move", "a", "b", (3, 2))]),
                (Lacking, 1, totals(a=(1, 1)), [("year",), ("fill", "a", "b")]),
                (Lacking, 0, totals(a=(1, 1), b=(5, 1)), [("move", "a", "b", (3, 2))]),
                (Full, 0, totals(a=(1, 1), b=(5, 1)), [("move", "a", "b", (1, 1))]),
                (Full, 2, totals(a=(6, 1)), [("year",), ("year",), ("all", "a", "b")]),
                (Full, 0, totals(a=(6, 1)), [("part", "a", "b", (6, 7))]),
                (Full, 1, totals(a=(6, 1)), [("bring", "gamay", "a", (4, 1)), ("bring", "gamay", "a", (1, 9))])]:
            with self.assertRaises(error) as caught:
                self.steps(first, deeds)
            self.assertEqual(caught.exception.at, at)

    def test_like_the_walk(self):
        for chance in chances(60):
            deeds = some_row(chance, HOUSE, 25)
            steps, last = self.steps(totals(), deeds, 2)
            standing = walk(HOUSE, empty(HOUSE), 2, deeds)[0][-1]
            self.assertEqual(last, totals_of(standing))
            self.assertEqual(gone(empty(HOUSE), steps), standing)
            for step in steps:
                self.assertTrue(is_fraction(step[3]))

    def test_whatever_rows(self):
        refusals = 0
        for chance in chances(200, 3000):
            first = walk(HOUSE, empty(HOUSE), 0, some_row(chance, HOUSE, 6))[0][-1]
            deeds = [some_deed(chance, HOUSE) for _ in range(4)]
            try:
                standings, year = plainly.plain_walk(HOUSE, first, 5, deeds)
            except plainly.Refused as refused:
                refusals += 1
                with self.assertRaises(getattr(errors, refused.word)) as caught:
                    steps_of(HOUSE, totals_of(first), 5, deeds)
                self.assertEqual(caught.exception.at, refused.at)
            else:
                steps, last = steps_of(HOUSE, totals_of(first), 5, deeds)
                self.assertEqual(last, totals_of(standings[-1]))
                self.assertEqual(gone(first, steps), standings[-1])
        self.assertGreater(refusals, 20)

    def test_the_same_for_every_wine(self):
        for chance in chances(20, 100):
            deeds = some_row(chance, HOUSE, 8)
            first = walk(HOUSE, empty(HOUSE), 0, deeds)[0][-1]
            other = {name: {("other", 3): (t[0], 3 * t[1]) if t[0] % 3 else (t[0] // 3, t[1]),
                            ("rest", 4): plainly.pair(plainly.own(t) * 2 / 3)} if t[0] else {}
                     for name, t in totals_of(first).items()}
            self.assertEqual(totals_of(other), totals_of(first))
            more = some_row(chance, HOUSE, 8, first, 5)
            steps = steps_of(HOUSE, totals_of(first), 5, more)[0]
            for standing in [first, other]:
                self.assertEqual(gone(standing, steps), walk(HOUSE, standing, 5, more)[0][-1])


class GoneTest(unittest.TestCase):
    def test_steps(self):
        one = empty(HOUSE)
        one["a"] = {G0: (2, 1), S0: (1, 1)}
        self.assertEqual(gone(one, [("pass", "a", "b", (1, 2))])["b"], {G0: (1, 1), S0: (1, 2)})
        self.assertEqual(gone(one, [("pass", "a", "b", (1, 1))])["a"], {})
        self.assertEqual(gone(one, [("pass", "a", "b", (0, 1))]), one)
        self.assertEqual(gone(one, [("bring", G0, "a", (1, 3))])["a"], {G0: (7, 3), S0: (1, 1)})
        self.assertEqual(gone(one, []), one)


class OwnTest(unittest.TestCase):
    def test_what_is_handed_in_stays(self):
        first = totals(a=(4, 1))
        steps, last = steps_of(HOUSE, first, 0, [("all", "a", "b")])
        self.assertEqual(first, totals(a=(4, 1)))
        last["a"] = (9, 1)
        self.assertEqual(first, totals(a=(4, 1)))
        with self.assertRaises(Full):
            steps_of(HOUSE, first, 0, [("part", "a", "b", (1, 2)), ("bring", "x", "a", (10, 1))])
        self.assertEqual(first, totals(a=(4, 1)))

    def test_gone_gives_what_is_the_askers_own(self):
        one = empty(HOUSE)
        one["a"] = {G0: (2, 1)}
        kept = copy.deepcopy(one)
        for steps in [[], [("pass", "a", "b", (1, 2))], [("pass", "a", "b", (0, 1)), ("pass", "c", "b", (1, 1))]]:
            told = gone(one, steps)
            dicts = list(told.values()) + list(one.values())
            self.assertEqual(len({id(wine) for wine in dicts}), len(dicts))
            for wine in told.values():
                wine[S0] = (1, 1)
            self.assertEqual(one, kept)

    def test_arguments(self):
        for name, arguments in [("totals_of", ["standing"]), ("steps_of", ["house", "totals", "year", "deeds"]),
                                ("gone", ["standing", "steps"])]:
            self.assertEqual(list(inspect.signature(getattr(module, name)).parameters), arguments)


if __name__ == "__main__":
    unittest.main()
