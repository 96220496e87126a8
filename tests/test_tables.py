import copy
import inspect
import unittest

from plainly import HOUSE, NAMES, chances, own, some_row
from tiercask import tables as module
from tiercask.shares import sum_of
from tiercask.tables import behind, brought, power, table, through
from tiercask.totals import gone, steps_of, totals_of
from tiercask.walk import empty, walk
from tiercask.wines import part_of, poured

G0, S0 = ("gamay", 0), ("syrah", 0)
STAY = {name: {name: (1, 1)} for name in NAMES}


def stay(**rows):
    return {**STAY, **rows}


def some_steps(chance, many=20):
    return steps_of(HOUSE, totals_of(empty(HOUSE)), 0, some_row(chance, HOUSE, many))[0]


def some_standing(chance):
    return walk(HOUSE, empty(HOUSE), 0, some_row(chance, HOUSE, 12))[0][-1]


class TableTest(unittest.TestCase):
    def test_no_steps(self):
        self.assertEqual(table(NAMES, []), STAY)
        self.assertEqual(table(["a"], [("bring", G0, "a", (1, 1))]), {"a": {"a": (1, 1)}})

    def test_one_pass(self):
        self.assertEqual(table(NAMES, [("pass", "a", "b", (1, 3))]), stay(a={"a": (2, 3), "b": (1, 3)}))
        self.assertEqual(table(NAMES, [("pass", "a", "b", (0, 1))]), STAY)
        self.assertEqual(table(NAMES, [("pass", "a", "b", (1, 1))]), stay(a={"b": (1, 1)}))

    def test_one_behind_another(self):
        steps = [("pass", "a", "b", (1, 2)), ("bring", G0, "a", (1, 1)), ("pass", "b", "c", (1, 3))]
        self.assertEqual(table(NAMES, steps), stay(a={"a": (1, 2), "b": (1, 3), "c": (1, 6)}, b={"b": (2, 3), "c": (1, 3)}))
        self.assertEqual(table(NAMES, list(reversed(steps))),
                         stay(a={"a": (1, 2), "b": (1, 2)}, b={"b": (2, 3), "c": (1, 3)}))
        there = [("pass", "a", "b", (1, 1)), ("pass", "b", "a", (1, 1))]
        self.assertEqual(table(NAMES, there), stay(b={"a": (1, 1)}))

    def test_shares_add_up_and_none_is_0(self):
        for chance in chances(30):
            one = table(NAMES, some_steps(chance))
            self.assertEqual(sorted(one), sorted(NAMES))
            for shares in one.values():
                self.assertEqual(sum_of(list(shares.values())), (1, 1))
                self.assertTrue(all(own(share) > 0 for share in shares.values()))


class BehindTest(unittest.TestCase):
    def test_the_ones_passes_first(self):
        one = table(NAMES, [("pass", "a", "b", (1, 1))])
        other = table(NAMES, [("pass", "b", "c", (1, 2))])
        self.assertEqual(behind(one, other), stay(a={"b": (1, 2), "c": (1, 2)}, b={"b": (1, 2), "c": (1, 2)}))
        self.assertEqual(behind(other, one), stay(a={"b": (1, 1)}, b={"b": (1, 2), "c": (1, 2)}))

    def test_like_the_steps_of_both(self):
        for chance in chances(20):
            one, other = some_steps(chance), some_steps(chance)
            self.assertEqual(behind(table(NAMES, one), table(NAMES, other)), table(NAMES, one + other))
            self.assertEqual(behind(table(NAMES, one), STAY), table(NAMES, one))
            self.assertEqual(behind(STAY, table(NAMES, one)), table(NAMES, one))


class PowerTest(unittest.TestCase):
    def test_powers(self):
        for chance in chances(10):
            steps = some_steps(chance, 8)
            for n in range(8):
                self.assertEqual(power(table(NAMES, steps), n), table(NAMES, steps * n))

    def test_a_large_one(self):
        one = {"a": {"a": (1, 2), "b": (1, 2)}, "b": {"b": (1, 1)}}
        self.assertEqual(power(one, 1000), {"a": {"a": (1, 2 ** 1000), "b": (2 ** 1000 - 1, 2 ** 1000)}, "b": {"b": (1, 1)}})
        self.assertEqual(power({"a": {"b": (1, 1)}, "b": {"a": (1, 1)}}, 61), {"a": {"b": (1, 1)}, "b": {"a": (1, 1)}})


class ThroughTest(unittest.TestCase):
    def test_lot_by_lot(self):
        one = table(NAMES, [("pass", "a", "b", (1, 2)), ("pass", "b", "out", (1, 3))])
        standing = {**empty(HOUSE), "a": {G0: (6, 1)}, "b": {G0: (3, 1), S0: (1, 1)}}
        self.assertEqual(through(one, standing), {**empty(HOUSE), "a": {G0: (3, 1)}, "b": {G0: (4, 1), S0: (2, 3)},
                                                  "out": {G0: (2, 1), S0: (1, 3)}})

    def test_like_gone(self):
        for chance in chances(30):
            standing = some_standing(chance)
            passes = [step for step in some_steps(chance) if step[0] == "pass"]
            self.assertEqual(through(table(NAMES, passes), standing), gone(standing, passes))


class BroughtTest(unittest.TestCase):
    def test_ends(self):
        steps = [("bring", G0, "a", (4, 1)), ("pass", "a", "b", (1, 2)), ("bring", S0, "b", (1, 1)),
                 ("pass", "b", "c", (1, 3)), ("bring", G0, "c", (1, 2)), ("pass", "a", "c", (0, 1))]
        self.assertEqual(brought(NAMES, steps), [(G0, (4, 1), {"a": (1, 2), "b": (1, 3), "c": (1, 6)}),
                                                 (S0, (1, 1), {"b": (2, 3), "c": (1, 3)}),
                                                 (G0, (1, 2), {"c": (1, 1)})])
        self.assertEqual(brought(NAMES, []), [])
        self.assertEqual(brought(NAMES, [("pass", "a", "b", (1, 2))]), [])
        self.assertEqual(brought(NAMES, [("bring", G0, "a", (1, 1)), ("pass", "a", "b", (1, 1))]),
                         [(G0, (1, 1), {"b": (1, 1)})])

    def test_with_the_table_it_is_what_stands(self):
        for chance in chances(30):
            standing = some_standing(chance)
            deeds = some_row(chance, HOUSE, 15, standing, 4)
            steps = steps_of(HOUSE, totals_of(standing), 4, deeds)[0]
            last = through(table(NAMES, steps), standing)
            for lot, amount, ends in brought(NAMES, steps):
                self.assertEqual(sum_of(list(ends.values())), (1, 1))
                for place, share in ends.items():
                    self.assertGreater(share[0], 0)
                    last[place] = poured(last[place], part_of({lot: amount}, share))
            self.assertEqual(last, walk(HOUSE, standing, 4, deeds)[0][-1])


class OwnTest(unittest.TestCase):
    def spoil(self, told):
        for inner in told.values():
            inner["late"] = (1, 1)
        told["late"] = {}

    def test_what_is_handed_in_stays_and_what_is_told_is_the_askers(self):
        steps = [("bring", G0, "a", (1, 1)), ("pass", "a", "b", (1, 2)), ("bring", G0, "b", (1, 1)), ("bring", G0, "b", (1, 1))]
        one = table(NAMES, steps)
        standing = {**empty(HOUSE), "a": {G0: (1, 1)}}
        kept = copy.deepcopy((steps, one, standing))
        for make in [lambda: table(NAMES, steps), lambda: table(NAMES, []), lambda: behind(one, STAY),
                     lambda: behind(STAY, one), lambda: power(one, 0), lambda: power(one, 1), lambda: power(one, 2),
                     lambda: through(one, standing), lambda: through(STAY, standing)]:
            told = make()
            dicts = list(told.values()) + list(one.values()) + list(standing.values())
            self.assertEqual(len({id(inner) for inner in dicts}), len(dicts))
            self.spoil(told)
            self.assertEqual((steps, one, standing), kept)
            self.assertNotIn("late", make())
        told = brought(NAMES, steps)
        self.assertEqual(len({id(ends) for lot, amount, ends in told}), 3)
        told[1][2]["late"] = (1, 1)
        self.assertEqual(told[2][2], {"b": (1, 1)})

    def test_shares_of_equal_rows_are_told_apart(self):
        told = table(NAMES, [("pass", "a", "b", (1, 1)), ("pass", "c", "b", (1, 1))])
        told["a"]["late"] = (1, 1)
        self.assertEqual((told["b"], told["c"]), ({"b": (1, 1)}, {"b": (1, 1)}))

    def test_arguments(self):
        for name, arguments in [("table", ["names", "steps"]), ("behind", ["one", "other"]), ("power", ["one", "n"]),
                                ("through", ["one", "standing"]), ("brought", ["names", "steps"])]:
            self.assertEqual(list(inspect.signature(getattr(module, name)).parameters), arguments)


if __name__ == "__main__":
    unittest.main()
