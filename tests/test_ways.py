import copy
import inspect
import unittest
from fractions import Fraction

from plainly import HOUSE, NAMES, chances, own, pair, some_row, some_share
from tiercask import ways as module
from tiercask.totals import steps_of, totals_of
from tiercask.traces import forth
from tiercask.walk import empty
from tiercask.ways import greatest_shares, greatest_way

G0 = ("gamay", 0)
STEPS = [("pass", "a", "b", (1, 1)), ("bring", G0, "a", (4, 1)), ("pass", "a", "b", (1, 3)), ("bring", G0, "b", (1, 1)),
         ("pass", "b", "c", (3, 4)), ("pass", "a", "c", (1, 2))]


def tail(steps, k):
    at = [number for number, step in enumerate(steps) if step[0] == "bring"][k]
    return steps[at][2], steps[at + 1:]


def onward(place, step):
    if step[0] == "pass" and step[1] == place:
        return [(place, 1 - own(step[3])), (step[2], own(step[3]))]
    return [(place, Fraction(1))]


def all_ways(steps, k):
    first, rest = tail(steps, k)
    ways = [([first], Fraction(1))]
    for step in rest:
        ways = [(way + [place], share * part) for way, share in ways for place, part in onward(way[-1], step)]
    return [(way, share) for way, share in ways if share > 0]


def some_steps(chance, many):
    steps = []
    for _ in range(many):
        if chance.random() < 0.3:
            steps.append(("bring", G0, chance.choice("abc"), (1, 1)))
        else:
            x = chance.choice("abc")
            steps.append(("pass", x, chance.choice([name for name in NAMES if name != x]), some_share(chance)))
    return [("bring", G0, "a", (1, 1))] + steps


class WayTest(unittest.TestCase):
    def test_ways(self):
        self.assertEqual(greatest_way(STEPS, 0, "a"), (["a", "a", "a", "a", "a"], (1, 3)))
        self.assertEqual(greatest_way(STEPS, 0, "b"), (["a", "b", "b", "b", "b"], (1, 12)))
        self.assertEqual(greatest_way(STEPS, 0, "c"), (["a", "a", "a", "a", "c"], (1, 3)))
        self.assertEqual(greatest_way(STEPS, 1, "c"), (["b", "c", "c"], (3, 4)))
        self.assertIsNone(greatest_way(STEPS, 1, "a"))
        self.assertIsNone(greatest_way(STEPS, 0, "out"))

    def test_the_last_bring(self):
        self.assertEqual(greatest_way([("bring", G0, "a", (1, 1))], 0, "a"), (["a"], (1, 1)))
        self.assertIsNone(greatest_way([("bring", G0, "a", (1, 1))], 0, "b"))
        self.assertEqual(greatest_shares([("bring", G0, "a", (1, 1))], 0), [{"a": (1, 1)}])

    def test_passes_of_nothing_and_of_all(self):
        steps = [("bring", G0, "a", (1, 1)), ("pass", "a", "b", (0, 1)), ("pass", "a", "c", (1, 1)), ("pass", "a", "b", (1, 1))]
        self.assertEqual(greatest_shares(steps, 0), [{"a": (1, 1)}, {"a": (1, 1)}, {"c": (1, 1)}, {"c": (1, 1)}])
        self.assertEqual(greatest_way(steps, 0, "c"), (["a", "a", "c", "c"], (1, 1)))
        self.assertIsNone(greatest_way(steps, 0, "a"))
        self.assertIsNone(greatest_way(steps, 0, "b"))

    def test_against_all_ways(self):
        for chance in chances(120):
            steps = some_steps(chance, 7)
            many = len([step for step in steps if step[0] == "bring"])
            for k in range(many):
                ways = all_ways(steps, k)
                for name in NAMES:
                    to_it = [one for one in ways if one[0][-1] == name]
                    told = greatest_way(steps, k, name)
                    if not to_it:
                        self.assertIsNone(told)
                        continue
                    self.assertIn((told[0], own(told[1])), to_it)
                    self.assertEqual(own(told[1]), max(share for way, share in to_it))
                    self.assertEqual(sum(share for way, share in to_it), own(forth(NAMES, steps, k)[name]))

    def test_shares_against_all_ways(self):
        for chance in chances(60, 200):
            steps = some_steps(chance, 6)
            at = len(tail(steps, 0)[1])
            told = greatest_shares(steps, 0)
            self.assertEqual(len(told), at + 1)
            for number in range(at + 1):
                best = {}
                for way, share in all_ways(steps[:number + 1], 0):
                    best[way[-1]] = max(best.get(way[-1], share), share)
                self.assertEqual(told[number], {place: pair(share) for place, share in best.items()})

    def test_long_rows(self):
        for chance in chances(5):
            steps = steps_of(HOUSE, totals_of(empty(HOUSE)), 0, some_row(chance, HOUSE, 120))[0]
            many = len([step for step in steps if step[0] == "bring"])
            for k in [0, many - 1]:
                shares = greatest_shares(steps, k)
                first, rest = tail(steps, k)
                self.assertEqual(len(shares), len(rest) + 1)
                for name in NAMES:
                    told = greatest_way(steps, k, name)
                    self.assertEqual(told is None, name not in forth(NAMES, steps, k))
                    if told is not None:
                        self.assertEqual(told[1], shares[-1][name])
                        self.assertEqual((told[0][0], told[0][-1], len(told[0])), (first, name, len(rest) + 1))
                        product = Fraction(1)
                        for number, step in enumerate(rest):
                            product *= dict(onward(told[0][number], step))[told[0][number + 1]]
                        self.assertEqual(pair(product), told[1])


class OwnTest(unittest.TestCase):
    def test_own(self):
        steps = copy.deepcopy(STEPS)
        told = greatest_shares(steps, 0)
        self.assertEqual(len({id(one) for one in told}), len(told))
        told[2]["late"] = (1, 1)
        self.assertEqual(told[3].get("late"), None)
        greatest_way(steps, 0, "a")[0].clear()
        self.assertEqual(greatest_way(steps, 0, "a")[0], ["a"] * 5)
        self.assertEqual(steps, STEPS)

    def test_arguments(self):
        self.assertEqual(list(inspect.signature(module.greatest_way).parameters), ["steps", "k", "place"])
        self.assertEqual(list(inspect.signature(module.greatest_shares).parameters), ["steps", "k"])


if __name__ == "__main__":
    unittest.main()
