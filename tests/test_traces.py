import copy
import inspect
import unittest
from fractions import Fraction

from plainly import HOUSE, NAMES, chances, own, pair, some_row
from tiercask import traces as module
from tiercask.shares import sum_of
from tiercask.totals import steps_of, totals_of
from tiercask.traces import back, forth
from tiercask.walk import empty, walk

G0, S0 = ("gamay", 0), ("syrah", 0)
STEPS = [("bring", G0, "a", (4, 1)), ("pass", "a", "b", (1, 2)), ("bring", S0, "b", (1, 1)), ("pass", "b", "out", (1, 4)),
         ("bring", G0, "c", (3, 1)), ("pass", "c", "out", (1, 1))]


def told_apart(deeds):
    """The deeds with a lot of its own for each bring."""
    letters = "abcdefghijklmnopqrstuvwxyz"
    number = 0
    apart = []
    for deed in deeds:
        if deed[0] == "bring":
            deed = ("bring", letters[number // 26] + letters[number % 26], deed[2], deed[3])
            number += 1
        apart.append(deed)
    return apart, [letters[k // 26] + letters[k % 26] for k in range(number)]


class ForthTest(unittest.TestCase):
    def test_sources(self):
        self.assertEqual(forth(NAMES, STEPS, 0), {"a": (1, 2), "b": (3, 8), "out": (1, 8)})
        self.assertEqual(forth(NAMES, STEPS, 1), {"b": (3, 4), "out": (1, 4)})
        self.assertEqual(forth(NAMES, STEPS, 2), {"out": (1, 1)})
        self.assertEqual(forth(NAMES, STEPS[:1], 0), {"a": (1, 1)})


class BackTest(unittest.TestCase):
    def test_places(self):
        self.assertEqual(back(NAMES, STEPS, "a"), [(0, (1, 1))])
        self.assertEqual(back(NAMES, STEPS, "b"), [(0, (2, 3)), (1, (1, 3))])
        self.assertEqual(back(NAMES, STEPS, "out"), [(0, (2, 15)), (1, (1, 15)), (2, (4, 5))])
        self.assertEqual(back(NAMES, STEPS, "c"), [])
        self.assertEqual(back(NAMES, STEPS, "air"), [])
        self.assertEqual(back(NAMES, [], "a"), [])
        self.assertEqual(back(NAMES, [("pass", "a", "b", (1, 2))], "b"), [])

    def test_two_into_one_place(self):
        steps = [("bring", G0, "a", (1, 1)), ("bring", G0, "a", (2, 1))]
        self.assertEqual(back(NAMES, steps, "a"), [(0, (1, 3)), (1, (2, 3))])


class AgainstTheWalkTest(unittest.TestCase):
    def test_wines_of_one_lot_each(self):
        for chance in chances(40):
            deeds, lots = told_apart([deed for deed in some_row(chance, HOUSE, 25) if deed[0] != "year"])
            steps = steps_of(HOUSE, totals_of(empty(HOUSE)), 0, deeds)[0]
            last = walk(HOUSE, empty(HOUSE), 0, deeds)[0][-1]
            amounts = [deed[3] for deed in deeds if deed[0] == "bring"]
            for k, lot in enumerate(lots):
                ends = {name: pair(own(wine[(lot, 0)]) / own(amounts[k])) for name, wine in last.items() if (lot, 0) in wine}
                self.assertEqual(forth(NAMES, steps, k), ends)
            for name, wine in last.items():
                there = sum([own(amount) for amount in wine.values()], Fraction(0))
                self.assertEqual(back(NAMES, steps, name), [(k, pair(own(wine[(lot, 0)]) / there))
                                                            for k, lot in enumerate(lots) if (lot, 0) in wine])

    def test_one_table_read_both_ways(self):
        for chance in chances(20, 50):
            steps = steps_of(HOUSE, totals_of(empty(HOUSE)), 0, some_row(chance, HOUSE, 20))[0]
            many = len([step for step in steps if step[0] == "bring"])
            for name in NAMES:
                row = back(NAMES, steps, name)
                self.assertEqual([k for k, share in row], [k for k in range(many) if name in forth(NAMES, steps, k)])
                if row:
                    self.assertEqual(sum_of([share for k, share in row]), (1, 1))

    def test_what_stood_at_first_is_left_aside(self):
        first = {**empty(HOUSE), "a": {S0: (6, 1)}}
        steps = steps_of(HOUSE, totals_of(first), 0, [("bring", "gamay", "a", (2, 1)), ("part", "a", "b", (1, 2))])[0]
        self.assertEqual(back(NAMES, steps, "a"), [(0, (1, 1))])
        self.assertEqual(back(NAMES, steps, "b"), [(0, (1, 1))])
        self.assertEqual(forth(NAMES, steps, 0), {"a": (1, 2), "b": (1, 2)})


class OwnTest(unittest.TestCase):
    def test_own(self):
        steps = copy.deepcopy(STEPS)
        forth(NAMES, steps, 0).clear()
        back(NAMES, steps, "b").clear()
        self.assertEqual(steps, STEPS)
        self.assertEqual(forth(NAMES, steps, 2), {"out": (1, 1)})
        self.assertEqual([type(one) for one in back(NAMES, steps, "b")], [tuple, tuple])

    def test_arguments(self):
        self.assertEqual(list(inspect.signature(module.forth).parameters), ["names", "steps", "k"])
        self.assertEqual(list(inspect.signature(module.back).parameters), ["names", "steps", "place"])


if __name__ == "__main__":
    unittest.main()
