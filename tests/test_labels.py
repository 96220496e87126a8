import copy
import inspect
import unittest
from fractions import Fraction

from plainly import chances, own, pair
from tiercask import labels as module, picks
from tiercask.labels import kept, lacks, weight
from tiercask.picks import means
from tiercask.wines import part_of, poured, total

OLD, YOUNG, OTHER = ("gamay", 2), ("gamay", 9), ("syrah", 5)
GAMAY, SYRAH = ("name", "gamay"), ("name", "syrah")


class MeansTest(unittest.TestCase):
    def test_name(self):
        self.assertIs(means(GAMAY, OLD, 10), True)
        self.assertIs(means(GAMAY, OTHER, 10), False)
        self.assertIs(means(("name", "gam"), OLD, 10), False)

    def test_years(self):
        for first, last, meant in [(2, 2, True), (1, 3, True), (2, 9, True), (0, 2, True), (3, 9, False), (0, 1, False),
                                   (3, 1, False), (2, 1, False), (-5, 20000, True)]:
            self.assertIs(means(("years", first, last), OLD, 10), meant)

    def test_old(self):
        for age, now, meant in [(8, 10, True), (7, 10, True), (9, 10, False), (0, 2, True), (1, 2, False), (-2, 0, True),
                                (-1, 0, False), (-3, 0, True), (0, 0, False), (19998, 20000, True), (19999, 20000, False)]:
            self.assertIs(means(("old", age), OLD, now), meant)

    def test_both_one_not(self):
        yes, no = GAMAY, SYRAH
        for P, Q, both, one in [(yes, yes, True, True), (yes, no, False, True), (no, yes, False, True), (no, no, False, False)]:
            self.assertIs(means(("both", P, Q), OLD, 10), both)
            self.assertIs(means(("one", P, Q), OLD, 10), one)
        self.assertIs(means(("not", yes), OLD, 10), False)
        self.assertIs(means(("not", no), OLD, 10), True)

    def test_twenty_deep(self):
        pick = GAMAY
        for _ in range(19):
            pick = ("not", pick)
        self.assertIs(means(pick, OLD, 10), False)
        self.assertIs(means(("not", pick), OLD, 10), True)
        pick = ("old", 8)
        for _ in range(19):
            pick = ("both", ("one", SYRAH, pick), GAMAY)
        self.assertIs(means(pick, OLD, 10), True)
        self.assertIs(means(pick, OLD, 9), False)


class WeightTest(unittest.TestCase):
    def test_least_and_most(self):
        self.assertEqual(weight(("least", (1, 3), GAMAY), OLD, 10), (2, 3))
        self.assertEqual(weight(("least", (1, 3), GAMAY), OTHER, 10), (-1, 3))
        self.assertEqual(weight(("most", (1, 3), GAMAY), OLD, 10), (-2, 3))
        self.assertEqual(weight(("most", (1, 3), GAMAY), OTHER, 10), (1, 3))
        self.assertEqual(weight(("least", (1, 1), GAMAY), OLD, 10), (0, 1))
        self.assertEqual(weight(("least", (0, 1), GAMAY), OTHER, 10), (0, 1))
        self.assertEqual(weight(("most", (0, 1), GAMAY), OLD, 10), (-1, 1))

    def test_mean(self):
        self.assertEqual(weight(("mean", (5, 2)), OLD, 10), (11, 2))
        self.assertEqual(weight(("mean", (8, 1)), OLD, 10), (0, 1))
        self.assertEqual(weight(("mean", (5, 2)), YOUNG, 0), (-23, 2))
        self.assertEqual(weight(("mean", (-10, 1)), YOUNG, 0), (1, 1))


def plainly_kept(condition, wine, now):
    """A condition by its own words, without weights."""
    whole = sum([own(amount) for amount in wine.values()], Fraction(0))
    if not whole:
        return True
    if condition[0] == "mean":
        ages = sum([own(amount) * (now - lot[1]) for lot, amount in wine.items()], Fraction(0))
        return ages / whole >= own(condition[1])
    meant = sum([own(amount) for lot, amount in wine.items() if means(condition[2], lot, now)], Fraction(0))
    return meant / whole >= own(condition[1]) if condition[0] == "least" else meant / whole <= own(condition[1])


def some_condition(chance):
    kind = chance.choice(["least", "most", "mean"])
    if kind == "mean":
        return ("mean", pair(Fraction(chance.randint(-4, 24), chance.randint(1, 3))))
    pick = chance.choice([GAMAY, SYRAH, ("years", 2, 5), ("old", 4), ("not", GAMAY), ("both", GAMAY, ("old", 3))])
    return (kind, pair(Fraction(chance.randint(0, 6), 6)), pick)


def some_wine(chance, least=0):
    lots = [(name, year) for name in ["gamay", "syrah", "pinot"] for year in [0, 3, 5, 9, 12]]
    return {lot: pair(Fraction(chance.randint(1, 9), chance.randint(1, 4)))
            for lot in chance.sample(lots, chance.randint(least, 4))}


class KeptTest(unittest.TestCase):
    def test_edges(self):
        wine = {OLD: (1, 1), OTHER: (2, 1)}
        for condition, is_kept in [(("least", (1, 3), GAMAY), True), (("least", (334, 1000), GAMAY), False),
                                   (("most", (1, 3), GAMAY), True), (("most", (333, 1000), GAMAY), False),
                                   (("mean", (6, 1)), True), (("mean", (601, 100)), False),
                                   (("least", (1, 1), GAMAY), False), (("most", (0, 1), GAMAY), False),
                                   (("least", (0, 1), ("name", "x")), True), (("most", (0, 1), ("name", "x")), True)]:
            self.assertIs(kept([condition], wine, 10), is_kept, condition)

    def test_ages_below_0(self):
        self.assertIs(kept([("mean", (-2, 1))], {OLD: (1, 1)}, 0), True)
        self.assertIs(kept([("mean", (-199, 100))], {OLD: (1, 1)}, 0), False)
        self.assertIs(kept([("mean", (0, 1))], {OLD: (1, 1), ("x", 4): (1, 1)}, 3), True)

    def test_no_wine_and_no_conditions(self):
        self.assertIs(kept([("least", (1, 1), GAMAY), ("mean", (99, 1))], {}, 10), True)
        self.assertIs(kept([], {OLD: (1, 1)}, 10), True)
        self.assertIs(kept([], {}, 10), True)

    def test_each_one_is_asked(self):
        wine = {OLD: (1, 1)}
        good, bad = ("least", (1, 1), GAMAY), ("mean", (9, 1))
        self.assertIs(kept([good, good], wine, 10), True)
        for label in [[good, bad], [bad, good], [bad]]:
            self.assertIs(kept(label, wine, 10), False)

    def test_by_their_own_words(self):
        outcomes = []
        for chance in chances(400):
            wine, label = some_wine(chance), [some_condition(chance) for _ in range(chance.randint(0, 3))]
            expected = all(plainly_kept(condition, wine, 12) for condition in label)
            outcomes.append(expected)
            self.assertIs(kept(label, wine, 12), expected)
        self.assertGreater(min(outcomes.count(True), outcomes.count(False)), 50)


def with_amount(wine, other, amount):
    return poured(wine, part_of(other, pair(own(amount) / own(total(other))))) if other else dict(wine)


class LacksTest(unittest.TestCase):
    def test_nothing_lacks(self):
        self.assertEqual(lacks([("least", (1, 3), GAMAY)], {OLD: (1, 1)}, {OTHER: (1, 1)}, 10), (0, 1))
        self.assertEqual(lacks([], {OLD: (1, 1)}, {}, 10), (0, 1))

    def test_an_amount_between(self):
        self.assertEqual(lacks([("least", (1, 2), SYRAH)], {OLD: (2, 1)}, {OTHER: (9, 1)}, 10), (2, 1))
        self.assertEqual(lacks([("least", (1, 2), SYRAH)], {OLD: (2, 1)}, {OTHER: (3, 1), OLD: (1, 1)}, 10), (4, 1))
        self.assertEqual(lacks([("mean", (7, 1))], {OTHER: (2, 1)}, {OLD: (9, 1)}, 10), (4, 1))

    def test_the_whole_other_wine_and_a_little_less(self):
        self.assertEqual(lacks([("least", (1, 2), SYRAH)], {OLD: (2, 1)}, {OTHER: (2, 1)}, 10), (2, 1))
        self.assertIsNone(lacks([("least", (1, 2), SYRAH)], {OLD: (2, 1)}, {OTHER: (199, 100)}, 10))

    def test_none_is_enough(self):
        self.assertIsNone(lacks([("least", (1, 2), SYRAH)], {OLD: (2, 1)}, {YOUNG: (99, 1)}, 10))
        self.assertIsNone(lacks([("most", (0, 1), GAMAY)], {OLD: (2, 1)}, {OTHER: (99, 1)}, 10))
        self.assertIsNone(lacks([("least", (1, 2), SYRAH)], {OLD: (2, 1)}, {}, 10))

    def test_several_at_once(self):
        label = [("least", (1, 2), SYRAH), ("most", (3, 4), SYRAH)]
        self.assertEqual(lacks(label, {OLD: (2, 1)}, {OTHER: (9, 1)}, 10), (2, 1))
        self.assertIsNone(lacks([("least", (1, 2), SYRAH), ("most", (1, 3), SYRAH)], {OLD: (2, 1)}, {OTHER: (9, 1)}, 10))
        label = [("least", (1, 2), SYRAH), ("most", (1, 2), SYRAH), ("least", (1, 3), ("old", 5))]
        self.assertEqual(lacks(label, {OLD: (2, 1)}, {OTHER: (9, 1)}, 10), (2, 1))
        self.assertEqual(lacks([("least", (1, 3), SYRAH), ("least", (1, 2), ("years", 5, 5))], {OLD: (2, 1)}, {OTHER: (9, 1)}, 10),
                         (2, 1))

    def test_no_wine(self):
        self.assertEqual(lacks([("mean", (99, 1))], {}, {OTHER: (9, 1)}, 10), (0, 1))
        self.assertEqual(lacks([("mean", (99, 1))], {}, {}, 10), (0, 1))

    def test_the_least_amount_exactly(self):
        told = {"none": 0, "nothing": 0, "some": 0}
        for chance in chances(900):
            wine, other = some_wine(chance), some_wine(chance)
            label = [some_condition(chance) for _ in range(chance.randint(1, 3))]
            least = lacks(label, wine, other, 12)
            most = own(total(other))
            if least is None:
                told["none"] += 1
                for k in range(61):
                    self.assertFalse(kept(label, with_amount(wine, other, pair(most * k / 60)), 12))
                continue
            self.assertTrue(0 <= own(least) <= most)
            self.assertTrue(kept(label, with_amount(wine, other, least), 12))
            if own(least) > 0:
                told["some"] += 1
                for less in [own(least) * k / 20 for k in range(20)] + [own(least) * 999999 / 1000000]:
                    self.assertFalse(kept(label, with_amount(wine, other, pair(less)), 12))
            else:
                told["nothing"] += 1
        self.assertGreater(min(told.values()), 20)


class OwnTest(unittest.TestCase):
    def test_what_is_handed_in_stays(self):
        label, wine, other = [("least", (1, 2), SYRAH)], {OLD: (2, 1)}, {OTHER: (9, 1)}
        before = copy.deepcopy((label, wine, other))
        kept(label, wine, 10)
        lacks(label, wine, other, 10)
        self.assertEqual((label, wine, other), before)

    def test_arguments(self):
        for name, arguments in [("weight", ["condition", "lot", "now"]), ("kept", ["label", "wine", "now"]),
                                ("lacks", ["label", "wine", "other", "now"])]:
            self.assertEqual(list(inspect.signature(getattr(module, name)).parameters), arguments)
        self.assertEqual(list(inspect.signature(picks.means).parameters), ["pick", "lot", "now"])


if __name__ == "__main__":
    unittest.main()
