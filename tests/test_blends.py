import copy
import inspect
import itertools
import unittest
from fractions import Fraction

from plainly import chances, own, pair
from test_labels import GAMAY, OLD, OTHER, SYRAH, plainly_kept, some_condition, some_wine
from tiercask import blends, papers
from tiercask.blends import blend
from tiercask.papers import is_blend, lets_by
from tiercask.wines import part_of, poured, total

NOW = 12
TWO = [({("gamay", 2): (4, 1)}, (1, 1)), ({("syrah", 5): (6, 1)}, (3, 1))]
HALF = ((5, 1), [("least", (1, 2), SYRAH)])
TWO_PAPER = ((2, 1), [(2, 1)], [(0, 1), (0, 1)])
TOLD = ("blend", [(5, 2), (5, 2)], TWO_PAPER)


def mixed(offer, amounts):
    wine = {}
    for (one, price), amount in zip(offer, amounts):
        wine = poured(wine, part_of(one, pair(own(amount) / own(total(one)))))
    return wine


def cost(offer, amounts):
    return sum([own(amount) * own(price) for (wine, price), amount in zip(offer, amounts)], Fraction(0))


def solution(rows):
    """Of equations with Python's own fractions the one solution, or None."""
    rows = [list(row) for row in rows]
    many = len(rows[0]) - 1
    for column in range(many):
        leads = [row for row in rows[column:] if row[column]]
        if not leads:
            return None
        rows.remove(leads[0])
        rows.insert(column, [number / leads[0][column] for number in leads[0]])
        for k, row in enumerate(rows):
            if k != column:
                rows[k] = [one - row[column] * two for one, two in zip(row, rows[column])]
    return [row[many] for row in rows[:many]]


def weights(condition, wine):
    whole = own(total(wine))
    if condition[0] == "mean":
        return sum([own(amount) * (NOW - lot[1] - own(condition[1])) for lot, amount in wine.items()]) / whole
    meant = sum([own(amount) for lot, amount in wine.items() if plainly_kept(("least", (1, 1), condition[2]), {lot: amount}, NOW)],
                Fraction(0))
    return (meant / whole - own(condition[1])) * (1 if condition[0] == "least" else -1)


def cheapest(offer, wish):
    """The least cost of any blend by looking at all corners, or None."""
    many = len(offer)
    walls = []
    for j, (wine, price) in enumerate(offer):
        row = [Fraction(int(k == j)) for k in range(many)]
        walls += [row + [Fraction(0)], row + [own(total(wine))]]
    for condition in wish[1]:
        walls.append([weights(condition, wine) for wine, price in offer] + [Fraction(0)])
    costs = []
    for some in itertools.combinations(walls, many - 1):
        corner = solution([[Fraction(1)] * many + [own(wish[0])]] + list(some))
        if corner is not None and all(0 <= x <= own(total(wine)) for x, (wine, price) in zip(corner, offer)):
            amounts = [pair(x) for x in corner]
            if all(plainly_kept(condition, mixed(offer, amounts), NOW) for condition in wish[1]):
                costs.append(cost(offer, amounts))
    return min(costs) if costs else None


def some_offer(chance, most):
    return [(some_wine(chance, 1), pair(Fraction(chance.randint(0, 6), chance.randint(1, 3))))
            for _ in range(chance.randint(1, most))]


def some_wish(chance, offer, most):
    there = sum([own(total(wine)) for wine, price in offer])
    amount = chance.choice([there * chance.randint(1, 6) / 6, Fraction(1, 3), there, there + Fraction(1, 100)])
    return (pair(amount), [some_condition(chance) for _ in range(chance.randint(0, most))])


class IsBlendTest(unittest.TestCase):
    def test_bounds(self):
        for amounts, wish, is_one in [
                ([(4, 1), (1, 1)], ((5, 1), []), True), ([(0, 1), (5, 1)], ((5, 1), []), True),
                ([(4, 1), (6, 1)], ((10, 1), []), True), ([(401, 100), (99, 100)], ((5, 1), []), False),
                ([(-1, 100), (501, 100)], ((5, 1), []), False), ([(4, 1), (101, 100)], ((5, 1), []), False),
                ([(4, 1), (99, 100)], ((5, 1), []), False), ([(4, 1), (7, 1)], ((11, 1), []), False),
                ([(0, 1), (0, 1)], ((5, 1), []), False)]:
            self.assertIs(is_blend(TWO, wish, NOW, amounts), is_one)

    def test_conditions(self):
        self.assertIs(is_blend(TWO, HALF, NOW, [(5, 2), (5, 2)]), True)
        self.assertIs(is_blend(TWO, HALF, NOW, [(251, 100), (249, 100)]), False)
        most = ((5, 1), [("most", (1, 2), SYRAH)])
        self.assertIs(is_blend(TWO, most, NOW, [(5, 2), (5, 2)]), True)
        self.assertIs(is_blend(TWO, most, NOW, [(249, 100), (251, 100)]), False)
        mean = ((5, 1), [("mean", (17, 2))])
        self.assertIs(is_blend(TWO, mean, NOW, [(5, 2), (5, 2)]), True)
        self.assertIs(is_blend(TWO, mean, NOW, [(249, 100), (251, 100)]), False)
        self.assertIs(is_blend(TWO, ((5, 1), HALF[1] + mean[1]), NOW, [(249, 100), (251, 100)]), False)

    def test_wines_of_several_lots_are_well_mixed(self):
        offer = [({OLD: (1, 1), OTHER: (3, 1)}, (1, 1))]
        self.assertIs(is_blend(offer, ((2, 1), [("least", (3, 4), SYRAH)]), NOW, [(2, 1)]), True)
        self.assertIs(is_blend(offer, ((2, 1), [("most", (74, 100), SYRAH)]), NOW, [(2, 1)]), False)

    def test_by_its_own_words(self):
        outcomes = []
        for chance in chances(300):
            offer = some_offer(chance, 3)
            amounts = [pair(own(total(wine)) * chance.choice([0, 1, Fraction(1, 2)])) for wine, price in offer]
            whole = sum([own(amount) for amount in amounts])
            if whole:
                label = [some_condition(chance) for _ in range(chance.randint(0, 2))]
                expected = all(plainly_kept(condition, mixed(offer, amounts), NOW) for condition in label)
                outcomes.append(expected)
                self.assertIs(is_blend(offer, (pair(whole), label), NOW, amounts), expected)
        self.assertGreater(min(outcomes.count(True), outcomes.count(False)), 40)


class BlendTest(unittest.TestCase):
    def amounts(self, offer, wish):
        told = blend(offer, wish, NOW)
        self.assertIs(lets_by(offer, wish, NOW, told), True)
        return told[1] if told[0] == "blend" else None

    def test_the_cheapest_wines_first(self):
        self.assertEqual(self.amounts(TWO, ((3, 1), [])), [(3, 1), (0, 1)])
        self.assertEqual(self.amounts(TWO, ((5, 1), [])), [(4, 1), (1, 1)])
        self.assertEqual(self.amounts(list(reversed(TWO)), ((5, 1), [])), [(1, 1), (4, 1)])

    def test_all_there_is_and_more(self):
        self.assertEqual(self.amounts(TWO, ((10, 1), [])), [(4, 1), (6, 1)])
        self.assertIsNone(self.amounts(TWO, ((1001, 100), [])))
        self.assertEqual(self.amounts(TWO[:1], ((4, 1), [])), [(4, 1)])
        self.assertIsNone(self.amounts(TWO[:1], ((5, 1), [])))

    def test_conditions(self):
        self.assertEqual(self.amounts(TWO, HALF), [(5, 2), (5, 2)])
        self.assertEqual(self.amounts(TWO, ((4, 1), [("least", (1, 1), SYRAH)])), [(0, 1), (4, 1)])
        self.assertIsNone(self.amounts(TWO, ((4, 1), [("least", (1, 1), ("name", "x"))])))
        self.assertIsNone(self.amounts(TWO, ((7, 1), [("least", (1, 1), SYRAH)])))
        self.assertIsNone(self.amounts(TWO, ((4, 1), [("least", (1, 2), SYRAH), ("most", (1, 3), SYRAH)])))

    def test_conditions_that_bind_at_one_point(self):
        label = [("least", (1, 2), SYRAH), ("most", (1, 2), SYRAH), ("least", (1, 2), GAMAY), ("most", (1, 2), GAMAY),
                 ("mean", (17, 2))]
        self.assertEqual(self.amounts(TWO, ((5, 1), label)), [(5, 2), (5, 2)])
        self.assertEqual(self.amounts(TWO, ((8, 1), label)), [(4, 1), (4, 1)])
        self.assertIsNone(self.amounts(TWO, ((801, 100), label)))

    def test_prices_of_0_and_alike(self):
        for price in [(0, 1), (1, 1)]:
            offer = [({("gamay", k): (1, 1), ("syrah", 9 - k): (k + 1, 1)}, price) for k in range(8)]
            for many in range(6):
                label = [("least", (1, 2), SYRAH), ("most", (9, 10), SYRAH), ("mean", (7, 2)), ("least", (0, 1), GAMAY),
                         ("most", (1, 1), ("old", 3))][:many]
                self.assertIsNotNone(self.amounts(offer, ((20, 1), label)))

    def test_against_all_corners(self):
        told = {"blend": 0, "none": 0}
        for chance in chances(250):
            offer = some_offer(chance, 3)
            wish = some_wish(chance, offer, 2)
            answer, least = blend(offer, wish, NOW), cheapest(offer, wish)
            told[answer[0]] += 1
            self.assertIs(lets_by(offer, wish, NOW, answer), True)
            if answer[0] == "none":
                self.assertIsNone(least)
            else:
                self.assertIs(is_blend(offer, wish, NOW, answer[1]), True)
                self.assertEqual(cost(offer, answer[1]), least)
        self.assertGreater(min(told.values()), 50)

    def test_each_answer_is_let_by(self):
        told = {"blend": 0, "none": 0}
        for chance in chances(400, 5000):
            offer = some_offer(chance, 8)
            wish = some_wish(chance, offer, 5)
            answer = blend(offer, wish, NOW)
            told[answer[0]] += 1
            self.assertIs(lets_by(offer, wish, NOW, answer), True)
        self.assertGreater(min(told.values()), 50)

    def test_the_same_condition_many_times(self):
        for chance in chances(60):
            offer = some_offer(chance, 4) * 2
            wish = some_wish(chance, offer, 1)
            wish = (wish[0], wish[1] * 5)
            self.assertIs(lets_by(offer, wish, NOW, blend(offer, wish, NOW)), True)

    def test_kinds(self):
        told = blend(TWO, HALF, NOW)
        self.assertEqual([type(one) for one in told], [str, list, tuple])
        self.assertEqual([type(one) for one in told[2]], [tuple, list, list])
        told = blend(TWO, ((99, 1), []), NOW)
        self.assertEqual([type(one) for one in told], [str, tuple])


class LetsByTest(unittest.TestCase):
    def by(self, some, wish=HALF, offer=TWO):
        return lets_by(offer, wish, NOW, some)

    def test_what_is_let_by(self):
        self.assertIs(self.by(TOLD), True)
        self.assertIs(self.by(blend(TWO, HALF, NOW)), True)

    def test_one_part_changed(self):
        a, (u, v, w) = TOLD[1], TWO_PAPER
        for some in [("blend", [(249, 100), (251, 100)], (u, v, w)), ("blend", [(251, 100), (249, 100)], (u, v, w)),
                     ("blend", a, ((3, 1), v, w)), ("blend", a, ((1, 1), v, w)), ("blend", a, (u, [(1, 1)], w)),
                     ("blend", a, (u, [(3, 1)], w)), ("blend", a, (u, v, [(1, 1), (0, 1)])),
                     ("blend", a, (u, v, [(0, 1), (1, 1)])), ("blend", a, (u, v, [(0, 1)])),
                     ("blend", a, (u, v, w + [(0, 1)])), ("blend", a, (u, [], w)), ("blend", a, (u, v * 2, w)),
                     ("blend", a[:1], (u, v, w)), ("blend", a + [(0, 1)], (u, v, w)), ("none", a, (u, v, w)),
                     ("none", (u, v, w)), ("Blend", a, (u, v, w)), ("blend", tuple(a), (u, v, w)), ["blend", a, (u, v, w)],
                     ("blend", a, [u, v, w]), ("blend", a, (u, tuple(v), w)), ("blend", a, (u, v, tuple(w))),
                     ("blend", a, (list(u), v, w)), ("blend", a, (u, [[2, 1]], w)), ("blend", [[5, 2], (5, 2)], (u, v, w)),
                     ("blend", a, ((4, 2), v, w)), ("blend", a, (u, [(4, 2)], w)), ("blend", a, (u, v, [(0, 1), (0, 2)])),
                     ("blend", [(10, 4), (5, 2)], (u, v, w)), ("blend", a, (2, v, w)), ("blend", a, (u, [2], w)),
                     ("blend", a, (u, v, [(False, 1), (0, 1)])), ("blend", a, (u, v, [(0, True), (0, 1)])),
                     ("blend", a, (u, v)), ("blend", a, (u, v, w, w)), ("blend", a), ("blend",), (), ("blend", a, (u, v, w), 1),
                     ("blend", a, None), ("blend", None, (u, v, w)), (b"blend", a, (u, v, w)), (["blend"], a, (u, v, w)),
                     ("blend", a, (u, v, {0: (0, 1), 1: (0, 1)})), ("blend", a, ((2.0, 1), v, w)), ("blend", a, (u, None, w))]:
            self.assertIs(self.by(some), False, some)

    def test_below_0_in_v_or_w(self):
        offer, wish = [({OLD: (4, 1)}, (1, 1))], ((2, 1), [("least", (1, 2), GAMAY)])
        self.assertIs(self.by(("blend", [(2, 1)], ((1, 1), [(0, 1)], [(0, 1)])), wish, offer), True)
        self.assertIs(self.by(("blend", [(2, 1)], ((1, 1), [(-1, 1)], [(0, 1)])), wish, offer), False)
        self.assertIs(self.by(("blend", [(2, 1)], ((3, 2), [(-1, 1)], [(1, 4)])), wish, offer), False)
        self.assertIs(self.by(("blend", [(2, 1)], ((-1, 1), [(0, 1)], [(-1, 1)])), wish, offer), False)

    def test_another_paper_that_shows_it(self):
        offer = [({OLD: (2, 1)}, (1, 1))]
        for paper in [((1, 1), [], [(0, 1)]), ((5, 1), [], [(4, 1)]), ((7, 3), [], [(4, 3)])]:
            self.assertIs(self.by(("blend", [(2, 1)], paper), ((2, 1), []), offer), True)
        self.assertIs(self.by(("blend", [(2, 1)], ((5, 1), [], [(3, 1)])), ((2, 1), []), offer), False)

    def test_a_dearer_blend(self):
        self.assertIs(self.by(("blend", [(0, 1), (5, 1)], TWO_PAPER)), False)
        self.assertIs(self.by(("blend", [(0, 1), (5, 1)], ((3, 1), [(0, 1)], [(0, 1), (0, 1)]))), False)

    def test_none(self):
        wish = ((11, 1), [])
        self.assertIs(self.by(("none", ((1, 1), [], [(1, 1), (1, 1)])), wish), True)
        self.assertIs(self.by(("none", ((2, 3), [], [(2, 3), (2, 3)])), wish), True)
        for paper in [((1, 1), [], [(1, 2), (1, 1)]), ((1, 1), [], [(2, 1), (1, 1)]), ((0, 1), [], [(0, 1), (0, 1)]),
                      ((1, 1), [], [(1, 1)]), ((1, 1), [(0, 1)], [(1, 1), (1, 1)]), ((1, 1), [], ((1, 1), (1, 1))),
                      [(1, 1), [], [(1, 1), (1, 1)]], ((1, 1), (), [(1, 1), (1, 1)]), None]:
            self.assertIs(self.by(("none", paper), wish), False, paper)
        self.assertIs(self.by(["none", ((1, 1), [], [(1, 1), (1, 1)])], wish), False)
        self.assertIs(self.by(("none", [], ((1, 1), [], [(1, 1), (1, 1)])), wish), False)
        self.assertIs(self.by(("blend", ((1, 1), [], [(1, 1), (1, 1)])), wish), False)

    def test_a_none_where_there_is_a_blend(self):
        self.assertIs(self.by(("none", ((1, 1), [], [(1, 1), (1, 1)])), ((10, 1), [])), False)
        for u in range(-2, 3):
            for v in range(3):
                for w in itertools.product(range(3), repeat=2):
                    paper = ((u, 1), [(v, 1)], [(one, 1) for one in w])
                    self.assertIs(self.by(("none", paper)), False)

    def test_the_letter_of_the_paper(self):
        # Every paper of small numbers, by the sums of point 26 done once more.
        for u, v, w, y in itertools.product(range(-1, 4), range(4), range(3), range(3)):
            paper = ((u, 1), [(v, 1)], [(w, 1), (y, 1)])
            worth = [u - Fraction(v, 2), u + Fraction(v, 2)]
            shown = worth[0] - w <= 1 and worth[1] - y <= 3 and 5 * u - 4 * w - 6 * y == 10
            self.assertIs(self.by(("blend", [(5, 2), (5, 2)], paper)), shown)

    def test_things(self):
        class Odd:
            def __eq__(self, other):
                raise RuntimeError("odd")

            __hash__ = None

        ring = []
        ring.append(ring)
        for some in [None, True, False, 0, 1, 1.5, "blend", "", b"", [], {}, set(), object(), Odd(), (Odd(),), ring,
                     (ring, ring, ring), ("blend", ring, ring), ("blend", ring, (ring, ring, ring)), ("none", ring),
                     ("none", Odd()), ("blend", [Odd(), Odd()], TWO_PAPER), ("blend", [(5, 2), (5, 2)], (Odd(), Odd(), Odd())),
                     ("blend", [(5, 2), (5, 2)], ((2, 1), [Odd()], [Odd(), Odd()])), ("blend", "ab", "abc"), (None,) * 3,
                     ("blend", [(5, 2), (Odd(), 1)], TWO_PAPER), ("blend", [(5, 2), (1, 0)], TWO_PAPER), lets_by, ("none",)]:
            self.assertIs(self.by(some), False)


class OwnTest(unittest.TestCase):
    def test_own(self):
        offer, wish = copy.deepcopy(TWO), copy.deepcopy(HALF)
        told = blend(offer, wish, NOW)
        kept = copy.deepcopy(told)
        lets_by(offer, wish, NOW, told)
        is_blend(offer, wish, NOW, told[1])
        self.assertEqual((offer, wish, told), (TWO, HALF, kept))
        for part in [told[1], told[2][1], told[2][2]]:
            part.clear()
        self.assertEqual(blend(offer, wish, NOW), kept)

    def test_arguments(self):
        for module, name, arguments in [(papers, "is_blend", ["offer", "wish", "now", "amounts"]),
                                        (papers, "lets_by", ["offer", "wish", "now", "some"]),
                                        (blends, "blend", ["offer", "wish", "now"])]:
            self.assertEqual(list(inspect.signature(getattr(module, name)).parameters), arguments)


if __name__ == "__main__":
    unittest.main()
