import copy
import inspect
import unittest
from fractions import Fraction

from plainly import HOUSE, NAMES, chances, own, pair, some_amount, some_share
from tiercask import ages, longrun
from tiercask.ages import by_age, mean_ages
from tiercask.longrun import casks_table, how_soon, long_run
from tiercask.tables import power, table
from tiercask.totals import gone, totals_of
from tiercask.walk import empty

G0 = ("gamay", 0)
CASKS = ["a", "b", "c"]
# From a to b, from b to c, from c out: a's own leaks three rounds later.
CHAIN = [("pass", "c", "out", (1, 2)), ("pass", "b", "c", (1, 2)), ("pass", "a", "b", (1, 2)), ("bring", G0, "a", (3, 1))]


def some_round(chance, many):
    steps = []
    for _ in range(many):
        if chance.random() < 0.25:
            steps.append(("bring", G0, chance.choice(CASKS), some_amount(chance)))
        else:
            x = chance.choice(CASKS)
            y = chance.choice([name for name in CASKS + ["out"] if name != x])
            steps.append(("pass", x, y, some_share(chance)))
    return steps


def standing_of(totals):
    return {name: ({("x", 1): totals[name]} if totals.get(name, (0, 1))[0] else {}) for name in NAMES}


def in_casks(steps, k):
    """Of each cask the share that stands in all casks together behind k rounds."""
    rows = power(table(NAMES, steps), k)
    return {name: sum([own(share) for end, share in rows[name].items() if end in CASKS], Fraction(0)) for name in CASKS}


class CasksTableTest(unittest.TestCase):
    def test_sinks_are_left_out(self):
        steps = [("pass", "a", "b", (1, 2)), ("pass", "b", "out", (1, 3)), ("pass", "c", "air", (1, 1)), ("bring", G0, "a", (1, 1))]
        self.assertEqual(casks_table(HOUSE, steps), {"a": {"a": (1, 2), "b": (1, 3)}, "b": {"b": (2, 3)}, "c": {}})
        self.assertEqual(casks_table(HOUSE, []), {name: {name: (1, 1)} for name in CASKS})

    def test_like_the_table(self):
        for chance in chances(20):
            steps = some_round(chance, 8)
            whole = table(NAMES, steps)
            self.assertEqual(casks_table(HOUSE, steps), {name: {end: share for end, share in whole[name].items() if end in CASKS}
                                                         for name in CASKS})


class LongRunTest(unittest.TestCase):
    def test_one_cask(self):
        house = [("cask", "a", (10, 1)), ("sink", "out")]
        steps = [("pass", "a", "out", (1, 3)), ("bring", G0, "a", (2, 1))]
        self.assertEqual(long_run(house, steps), ("lasting", {"a": (6, 1)}, (1, (2, 3))))
        self.assertEqual(long_run(house, list(reversed(steps))), ("lasting", {"a": (4, 1)}, (1, (2, 3))))
        self.assertEqual(long_run(house, steps[:1]), ("lasting", {"a": (0, 1)}, (1, (2, 3))))
        self.assertEqual(long_run(house, steps[1:]), ("closed", ["a"]))
        self.assertEqual(long_run(house, [("pass", "a", "out", (1, 1)), ("bring", G0, "a", (2, 1))]),
                         ("lasting", {"a": (2, 1)}, (1, (0, 1))))

    def test_through_others(self):
        told = long_run(HOUSE, CHAIN)
        self.assertEqual(told, ("lasting", {"a": (6, 1), "b": (6, 1), "c": (6, 1)}, (3, (7, 8))))
        self.assertEqual(in_casks(CHAIN, 2)["a"], 1)
        self.assertEqual(in_casks(CHAIN, 3), {"a": Fraction(7, 8), "b": Fraction(1, 2), "c": Fraction(1, 8)})

    def test_closed(self):
        steps = [("pass", "c", "out", (1, 2)), ("pass", "b", "c", (1, 2))]
        self.assertEqual(long_run(HOUSE, steps), ("closed", ["a"]))
        self.assertEqual(long_run(HOUSE, []), ("closed", ["a", "b", "c"]))
        self.assertEqual(long_run(HOUSE, [("pass", "b", "out", (0, 1)), ("pass", "c", "air", (1, 9))]), ("closed", ["a", "b"]))
        self.assertEqual(long_run(HOUSE, [("pass", "a", "b", (1, 2)), ("pass", "b", "a", (1, 2)), ("pass", "c", "air", (1, 9))]),
                         ("closed", ["a", "b"]))
        house = [("cask", "z", (1, 1)), ("cask", "b", (1, 1)), ("sink", "s"), ("cask", "a", (1, 1))]
        self.assertEqual(long_run(house, []), ("closed", ["a", "b", "z"]))

    def test_some_rounds(self):
        told_of = {"lasting": 0, "closed": 0}
        above_one = 0
        for chance in chances(200):
            steps = some_round(chance, chance.randint(1, 9))
            told = long_run(HOUSE, steps)
            told_of[told[0]] += 1
            never = sorted([name for name, share in in_casks(steps, 4).items() if share == 1])
            if told[0] == "closed":
                self.assertEqual(told[1], never)
                continue
            self.assertEqual(never, [])
            self.assertEqual(sorted(told[1]), CASKS)
            after = totals_of(gone(standing_of(told[1]), steps))
            self.assertEqual({name: after[name] for name in CASKS}, told[1])
            k, share = told[2]
            above_one += k > 1
            self.assertEqual(pair(max(in_casks(steps, k).values())), share)
            self.assertLess(own(share), 1)
            if k > 1:
                self.assertEqual(max(in_casks(steps, k - 1).values()), 1)
        self.assertGreater(min(told_of.values()), 20)
        self.assertGreater(above_one, 5)

    def test_all_others_come_near(self):
        k, share = long_run(HOUSE, CHAIN)[2]
        one, other = {"a": (10, 1), "b": (0, 1), "c": (1, 2)}, {"a": (0, 1), "b": (5, 1), "c": (3, 1)}
        first = sum([abs(own(one[name]) - own(other[name])) for name in CASKS])
        standings = [standing_of(one), standing_of(other)]
        for n in range(1, 13):
            standings = [gone(standing, CHAIN) for standing in standings]
            left, right = [totals_of(standing) for standing in standings]
            differ = sum([abs(own(left[name]) - own(right[name])) for name in CASKS])
            self.assertLessEqual(differ, own(share) ** (n // k) * first)


class HowSoonTest(unittest.TestCase):
    def test_part_from_1_on(self):
        for part in [(1, 1), (3, 2), (99, 1)]:
            self.assertEqual(how_soon(1, (1, 2), part), 0)
            self.assertEqual(how_soon(7, (0, 1), part), 0)
            self.assertEqual(how_soon(300, (1, 2), part), 0)

    def test_powers(self):
        self.assertEqual(how_soon(1, (1, 2), (1, 2)), 1)
        self.assertEqual(how_soon(1, (1, 2), (499, 1000)), 2)
        self.assertEqual(how_soon(1, (1, 2), (1, 1024)), 10)
        self.assertEqual(how_soon(3, (1, 2), (1, 1024)), 30)
        self.assertEqual(how_soon(3, (1, 2), (999, 1000)), 3)

    def test_share_of_nothing(self):
        self.assertEqual(how_soon(1, (0, 1), (1, 10 ** 9)), 1)
        self.assertEqual(how_soon(12, (0, 1), (999, 1000)), 12)
        self.assertEqual(how_soon(200, (0, 1), (1, 2)), 200)
        self.assertIsNone(how_soon(201, (0, 1), (1, 2)))

    def test_200(self):
        self.assertEqual(how_soon(1, (1, 2), (1, 2 ** 200)), 200)
        self.assertIsNone(how_soon(1, (1, 2), (1, 2 ** 200 + 1)))
        self.assertEqual(how_soon(3, (1, 2), (1, 2 ** 66)), 198)
        self.assertIsNone(how_soon(3, (1, 2), (1, 2 ** 66 + 1)))
        self.assertIsNone(how_soon(1, (999, 1000), (1, 2)))
        self.assertEqual(how_soon(1, (996, 1000), (1, 2)), 173)


class AgesTest(unittest.TestCase):
    def test_one_cask(self):
        house = [("cask", "a", (10, 1)), ("sink", "out")]
        steps = [("pass", "a", "out", (1, 2)), ("bring", G0, "a", (2, 1))]
        self.assertEqual(by_age(house, steps, 0), [])
        self.assertEqual(by_age(house, steps, 1), [{"a": (2, 1)}])
        self.assertEqual(by_age(house, steps, 4), [{"a": (2, 1)}, {"a": (1, 1)}, {"a": (1, 2)}, {"a": (1, 4)}])
        self.assertEqual(mean_ages(house, steps), {"a": (1, 1)})
        self.assertEqual(mean_ages(house, [("pass", "a", "out", (1, 1)), ("bring", G0, "a", (2, 1))]), {"a": (0, 1)})
        self.assertEqual(mean_ages(house, [("pass", "a", "out", (1, 3)), ("bring", G0, "a", (2, 1))]), {"a": (2, 1)})

    def test_the_chain(self):
        self.assertEqual(by_age(HOUSE, CHAIN, 3), [{"a": (3, 1), "b": (0, 1), "c": (0, 1)},
                                                   {"a": (3, 2), "b": (3, 2), "c": (0, 1)},
                                                   {"a": (3, 4), "b": (3, 2), "c": (3, 4)}])
        self.assertEqual(mean_ages(HOUSE, CHAIN), {"a": (1, 1), "b": (3, 1), "c": (5, 1)})

    def test_nothing_stands(self):
        steps = [("pass", name, "out", (1, 2)) for name in CASKS] + [("bring", G0, "a", (1, 1))]
        self.assertEqual(mean_ages(HOUSE, steps), {"a": (1, 1), "b": None, "c": None})
        self.assertEqual(mean_ages(HOUSE, steps[:3]), {"a": None, "b": None, "c": None})
        self.assertEqual(by_age(HOUSE, steps[:3], 2), [{name: (0, 1) for name in CASKS}] * 2)

    def test_no_lasting_standing(self):
        for steps in [[], CHAIN[1:]]:
            self.assertIsNone(by_age(HOUSE, steps, 3))
            self.assertIsNone(by_age(HOUSE, steps, 0))
            self.assertIsNone(mean_ages(HOUSE, steps))

    def test_against_the_lasting_standing(self):
        lasting = 0
        for chance in chances(120):
            steps = some_round(chance, 7)
            told = long_run(HOUSE, steps)
            if told[0] == "closed":
                self.assertIsNone(by_age(HOUSE, steps, 2))
                self.assertIsNone(mean_ages(HOUSE, steps))
                continue
            lasting += 1
            for many in [1, 2, 9]:
                row = by_age(HOUSE, steps, many)
                # What is older than these is the lasting standing, led through so many rounds.
                rest = power(table(NAMES, steps), many)
                for name in CASKS:
                    older = sum([own(told[1][cask]) * own(rest[cask].get(name, (0, 1))) for cask in CASKS])
                    self.assertEqual(sum([own(one[name]) for one in row]) + older, own(told[1][name]))
        self.assertGreater(lasting, 40)

    def test_means_near_the_ages_told(self):
        compared = 0
        for chance in chances(80):
            steps = some_round(chance, 7)
            told = long_run(HOUSE, steps)
            if told[0] == "lasting" and how_soon(told[2][0], told[2][1], (1, 10 ** 9)) is not None:
                row = by_age(HOUSE, steps, 240)
                means = mean_ages(HOUSE, steps)
                for name in CASKS:
                    if told[1][name][0] == 0:
                        self.assertIsNone(means[name])
                        continue
                    near = sum([m * (one[name][0] / one[name][1]) for m, one in enumerate(row)])
                    compared += 1
                    self.assertAlmostEqual(means[name][0] / means[name][1], near / (told[1][name][0] / told[1][name][1]), 4)
        self.assertGreater(compared, 20)

    def test_sixty(self):
        row = by_age(HOUSE, CHAIN, 60)
        self.assertEqual(len(row), 60)
        self.assertEqual(row[59]["a"], (3, 2 ** 59))


class OwnTest(unittest.TestCase):
    def test_own(self):
        steps = copy.deepcopy(CHAIN)
        for make in [lambda: casks_table(HOUSE, steps), lambda: long_run(HOUSE, steps)[1], lambda: mean_ages(HOUSE, steps),
                     lambda: long_run(HOUSE, [])[1], lambda: by_age(HOUSE, steps, 3)]:
            kept = copy.deepcopy(make())
            make().clear()
            self.assertEqual(make(), kept)
            self.assertEqual(steps, CHAIN)
        row = by_age(HOUSE, steps, 3)
        self.assertEqual(len({id(one) for one in row}), 3)
        self.assertEqual([type(one) for one in long_run(HOUSE, steps)], [str, dict, tuple])

    def test_arguments(self):
        for module, name, arguments in [(longrun, "casks_table", ["house", "steps"]), (longrun, "long_run", ["house", "steps"]),
                                        (longrun, "how_soon", ["k", "share", "part"]),
                                        (ages, "by_age", ["house", "steps", "many"]), (ages, "mean_ages", ["house", "steps"])]:
            self.assertEqual(list(inspect.signature(getattr(module, name)).parameters), arguments)


if __name__ == "__main__":
    unittest.main()
