import copy
import inspect
import unittest

from tiercask import wines
from tiercask.shares import is_fraction
from tiercask.wines import part_of, poured, told, total

LARGE = 10 ** 60 + 7


def young():
    return {("syrah", 2001): (1, 2), ("gamay", 2003): (2, 3), ("syrah", 0): (5, 1)}


def old():
    return {("gamay", 2003): (1, 3), ("a", 9999): (7, 4), ("syrah", 2001): (1, 6)}


class PouredTest(unittest.TestCase):
    def test_lot_by_lot(self):
        both = {("syrah", 2001): (2, 3), ("gamay", 2003): (1, 1), ("syrah", 0): (5, 1), ("a", 9999): (7, 4)}
        self.assertEqual(poured(young(), old()), both)
        self.assertEqual(poured(old(), young()), both)

    def test_lots_of_one_alone(self):
        one = {("a", 1): (1, 2)}
        other = {("a", 2): (1, 3), ("b", 1): (1, 4)}
        both = {("a", 1): (1, 2), ("a", 2): (1, 3), ("b", 1): (1, 4)}
        self.assertEqual(poured(one, other), both)
        self.assertEqual(poured(other, one), both)

    def test_no_wine(self):
        self.assertEqual(poured({}, {}), {})
        self.assertEqual(poured(young(), {}), young())
        self.assertEqual(poured({}, young()), young())

    def test_with_itself(self):
        wine = young()
        self.assertEqual(poured(wine, wine), {("syrah", 2001): (1, 1), ("gamay", 2003): (4, 3), ("syrah", 0): (10, 1)})
        self.assertEqual(wine, young())

    def test_large_numbers(self):
        one = {("a", 1): (1, LARGE)}
        other = {("a", 1): (LARGE - 1, LARGE)}
        self.assertEqual(poured(one, other), {("a", 1): (1, 1)})


class PartOfTest(unittest.TestCase):
    def test_nothing(self):
        self.assertEqual(part_of(young(), (0, 1)), {})
        self.assertEqual(part_of({}, (0, 1)), {})

    def test_all(self):
        self.assertEqual(part_of(young(), (1, 1)), young())
        self.assertEqual(part_of({}, (1, 1)), {})

    def test_between(self):
        self.assertEqual(part_of(young(), (2, 5)),
                         {("syrah", 2001): (1, 5), ("gamay", 2003): (4, 15), ("syrah", 0): (2, 1)})
        self.assertEqual(part_of({("a", 1): (LARGE, 3)}, (1, LARGE)), {("a", 1): (1, 3)})
        self.assertEqual(part_of({}, (1, 2)), {})

    def test_a_share_beyond_all_is_not_refused(self):
        self.assertEqual(part_of({("a", 1): (1, 3)}, (3, 2)), {("a", 1): (1, 2)})

    def test_shares_that_add_up(self):
        for share, rest in [((1, 3), (2, 3)), ((0, 1), (1, 1)), ((1, LARGE), (LARGE - 1, LARGE))]:
            self.assertEqual(poured(part_of(young(), share), part_of(young(), rest)), young())

    def test_amounts_are_fractions_above_0(self):
        for share in [(0, 1), (1, 12), (1, 2), (11, 12), (1, 1)]:
            for amount in part_of(young(), share).values():
                self.assertTrue(is_fraction(amount) and amount[0] > 0)


class TotalTest(unittest.TestCase):
    def test_total(self):
        self.assertEqual(total(young()), (37, 6))
        self.assertEqual(total(old()), (9, 4))
        self.assertEqual(total({("a", 1): (LARGE, 3), ("b", 1): (1, 3)}), ((LARGE + 1) // 3, 1))

    def test_no_wine(self):
        self.assertEqual(total({}), (0, 1))

    def test_of_poured_and_part(self):
        self.assertEqual(total(poured(young(), old())), (101, 12))
        self.assertEqual(total(part_of(young(), (3, 37))), (1, 2))


class ToldTest(unittest.TestCase):
    def test_sorted_by_names_then_years(self):
        wine = {("b", 3): (1, 9), ("ab", 20): (9, 1), ("b", 10): (1, 2), ("a", 9999): (3, 1), ("ab", 3): (1, 1),
                ("aa", 0): (2, 1)}
        self.assertEqual(told(wine), [(("a", 9999), (3, 1)), (("aa", 0), (2, 1)), (("ab", 3), (1, 1)),
                                      (("ab", 20), (9, 1)), (("b", 3), (1, 9)), (("b", 10), (1, 2))])

    def test_the_order_of_coming_does_not_matter(self):
        pairs = list(young().items())
        self.assertEqual(told(dict(reversed(pairs))), told(dict(pairs)))

    def test_kinds(self):
        row = told(young())
        self.assertIs(type(row), list)
        self.assertEqual([type(pair) for pair in row], [tuple, tuple, tuple])

    def test_no_wine(self):
        self.assertEqual(told({}), [])


class OwnTest(unittest.TestCase):
    def test_what_is_handed_in_stays(self):
        one = young()
        other = old()
        poured(one, other)
        part_of(one, (1, 2))
        part_of(one, (0, 1))
        total(one)
        told(one)
        self.assertEqual(list(one.items()), list(young().items()))
        self.assertEqual(list(other.items()), list(old().items()))

    def answers(self, one, other):
        return [poured(one, other), poured(other, one), poured(one, {}), poured({}, one), part_of(one, (1, 1)),
                part_of(one, (1, 2)), total(one), told(one)]

    def test_what_was_told_stays(self):
        one = young()
        other = old()
        answers = self.answers(one, other)
        kept = copy.deepcopy(answers)
        one[("late", 1)] = (1, 1)
        one[("gamay", 2003)] = (8, 1)
        other.clear()
        self.assertEqual(answers, kept)

    def test_what_is_done_to_an_answer_changes_nothing_else(self):
        one = young()
        other = old()
        kept = self.answers(one, other)
        for answer in self.answers(one, other):
            if not isinstance(answer, tuple):
                answer.clear()
        self.assertEqual(one, young())
        self.assertEqual(other, old())
        self.assertEqual(self.answers(one, other), kept)

    def test_no_wine_is_each_time_a_new_one(self):
        for make in [lambda: poured({}, {}), lambda: part_of({}, (1, 1)), lambda: part_of(young(), (0, 1))]:
            make()[("late", 1)] = (1, 1)
            self.assertEqual(make(), {})
        told({}).append("late")
        self.assertEqual(told({}), [])


class InterfaceTest(unittest.TestCase):
    def test_arguments(self):
        for name, arguments in [("poured", ["one", "other"]), ("part_of", ["wine", "share"]), ("total", ["wine"]),
                                ("told", ["wine"])]:
            with self.subTest(name=name):
                self.assertEqual(list(inspect.signature(getattr(wines, name)).parameters), arguments)


if __name__ == "__main__":
    unittest.main()
