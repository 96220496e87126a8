import copy
import inspect
import unittest

import plainly
from plainly import HOUSE, NAMES, chances, some_deed, some_row
from tiercask import errors, walk as module
from tiercask.errors import Full, Lacking
from tiercask.shares import is_fraction
from tiercask.walk import empty, walk

G0, G1, S0 = ("gamay", 0), ("gamay", 1), ("syrah", 0)


def standing(**wines):
    return {name: dict(wines.get(name, {})) for name in NAMES}


def last(first, deeds, year=0):
    return walk(HOUSE, first, year, deeds)[0][-1]


class EmptyTest(unittest.TestCase):
    def test_empty(self):
        self.assertEqual(empty(HOUSE), {"a": {}, "b": {}, "c": {}, "out": {}, "air": {}})
        self.assertEqual(empty([("cask", "tun", (1, 3))]), {"tun": {}})

    def test_each_wine_is_its_own(self):
        one = empty(HOUSE)
        one["a"][G0] = (1, 1)
        self.assertEqual(one["b"], {})
        self.assertEqual(empty(HOUSE)["a"], {})


class DeedsTest(unittest.TestCase):
    def test_no_deeds(self):
        self.assertEqual(walk(HOUSE, empty(HOUSE), 7, []), ([empty(HOUSE)], 7))

    def test_bring(self):
        self.assertEqual(last(empty(HOUSE), [("bring", "gamay", "a", (7, 2))], 9999), standing(a={("gamay", 9999): (7, 2)}))
        self.assertEqual(last(standing(a={G0: (1, 3), S0: (1, 1)}), [("bring", "gamay", "a", (2, 3))]),
                         standing(a={G0: (1, 1), S0: (1, 1)}))

    def test_move(self):
        first = standing(a={G0: (3, 1), S0: (1, 1)}, b={S0: (1, 2)})
        self.assertEqual(last(first, [("move", "a", "b", (2, 1))]),
                         standing(a={G0: (3, 2), S0: (1, 2)}, b={G0: (3, 2), S0: (1, 1)}))
        self.assertEqual(last(first, [("move", "a", "b", (4, 1))]), standing(b={G0: (3, 1), S0: (3, 2)}))

    def test_part(self):
        first = standing(a={G0: (3, 1), S0: (1, 1)})
        self.assertEqual(last(first, [("part", "a", "b", (1, 3))]),
                         standing(a={G0: (2, 1), S0: (2, 3)}, b={G0: (1, 1), S0: (1, 3)}))
        self.assertEqual(last(first, [("part", "a", "out", (1, 1))]), standing(out={G0: (3, 1), S0: (1, 1)}))
        self.assertEqual(last(first, [("part", "a", "b", (0, 1))]), first)

    def test_all(self):
        first = standing(a={G0: (3, 1)}, b={G0: (1, 2), G1: (1, 2)})
        self.assertEqual(last(first, [("all", "a", "b")]), standing(b={G0: (7, 2), G1: (1, 2)}))

    def test_fill(self):
        first = standing(a={G0: (4, 1), S0: (4, 1)}, b={G0: (3, 1)})
        self.assertEqual(last(first, [("fill", "a", "b")]),
                         standing(a={G0: (3, 1), S0: (3, 1)}, b={G0: (4, 1), S0: (1, 1)}))
        self.assertEqual(last(standing(a={G0: (2, 1)}, b={S0: (3, 1)}), [("fill", "a", "b")]),
                         standing(b={G0: (2, 1), S0: (3, 1)}))

    def test_year(self):
        deeds = [("bring", "gamay", "a", (1, 1)), ("year",), ("bring", "gamay", "a", (2, 1)), ("year",), ("year",)]
        standings, year = walk(HOUSE, empty(HOUSE), 0, deeds)
        self.assertEqual(year, 3)
        self.assertEqual(standings[-1], standing(a={G0: (1, 1), G1: (2, 1)}))
        self.assertEqual(standings[2], standings[1])

    def test_every_standing_is_told(self):
        deeds = [("bring", "gamay", "a", (1, 1)), ("year",), ("part", "a", "b", (1, 2)), ("all", "b", "out")]
        self.assertEqual(walk(HOUSE, empty(HOUSE), 0, deeds), (
            [standing(), standing(a={G0: (1, 1)}), standing(a={G0: (1, 1)}), standing(a={G0: (1, 2)}, b={G0: (1, 2)}),
             standing(a={G0: (1, 2)}, out={G0: (1, 2)})], 1))

    def test_kinds(self):
        told = walk(HOUSE, empty(HOUSE), 0, [("year",)])
        self.assertEqual((type(told), type(told[0]), type(told[1])), (tuple, list, int))


class NotRefusedTest(unittest.TestCase):
    def test_a_fill_without_room_left(self):
        first = standing(b={G0: (5, 1)})
        self.assertEqual(last(first, [("fill", "a", "b")]), first)
        first = standing(a={S0: (1, 1)}, b={G0: (5, 1)})
        self.assertEqual(last(first, [("fill", "a", "b")]), first)

    def test_a_part_and_an_all_of_no_wine(self):
        first = standing(b={G0: (5, 1)})
        for deed in [("part", "a", "b", (1, 1)), ("part", "a", "b", (1, 2)), ("all", "a", "b"), ("all", "a", "out")]:
            self.assertEqual(last(first, [deed]), first)

    def test_just_full(self):
        self.assertEqual(last(standing(a={G0: (5, 1)}), [("move", "a", "b", (5, 1))]), standing(b={G0: (5, 1)}))
        self.assertEqual(last(empty(HOUSE), [("bring", "gamay", "c", (7, 2))]), standing(c={G0: (7, 2)}))

    def test_sinks_have_no_end_of_room(self):
        deeds = [("bring", "gamay", "a", (10, 1)), ("all", "a", "out")] * 30
        self.assertEqual(last(empty(HOUSE), deeds), standing(out={G0: (300, 1)}))


class RefusedTest(unittest.TestCase):
    def refused(self, error, at, first, deeds):
        kept = copy.deepcopy(first)
        with self.assertRaises(error) as caught:
            walk(HOUSE, first, 0, deeds)
        self.assertEqual(caught.exception.at, at)
        self.assertEqual(first, kept)

    def test_lacking(self):
        first = standing(a={G0: (1, 1)}, b={G0: (3, 1)})
        self.refused(Lacking, 0, first, [("move", "a", "c", (1000001, 1000000))])
        self.refused(Lacking, 0, first, [("move", "c", "a", (1, 1000000))])
        self.refused(Lacking, 0, first, [("fill", "a", "b")])
        self.refused(Lacking, 0, first, [("fill", "c", "a")])
        self.refused(Lacking, 2, first, [("year",), ("all", "a", "b"), ("move", "a", "b", (1, 1))])

    def test_full(self):
        first = standing(a={G0: (9, 1)}, b={G0: (3, 1)}, c={G0: (3, 1)})
        self.refused(Full, 0, first, [("bring", "gamay", "a", (1000001, 1000000))])
        self.refused(Full, 0, first, [("move", "a", "b", (2000001, 1000000))])
        self.refused(Full, 0, first, [("part", "a", "b", (1, 4))])
        self.refused(Full, 0, first, [("all", "b", "a")])
        self.refused(Full, 1, first, [("part", "a", "b", (2, 9)), ("part", "a", "b", (1, 1000000))])

    def test_lacking_ahead_of_full(self):
        first = standing(a={G0: (9, 1)}, b={G0: (5, 1)})
        self.refused(Lacking, 0, first, [("move", "a", "b", (10, 1))])
        self.refused(Lacking, 0, first, [("move", "c", "b", (1, 1))])
        self.refused(Full, 0, first, [("move", "a", "b", (9, 1))])

    def test_a_move_into_a_sink_is_never_full(self):
        first = standing(a={G0: (9, 1)})
        self.refused(Lacking, 0, first, [("move", "a", "out", (10, 1))])
        self.assertEqual(last(first, [("move", "a", "out", (9, 1))]), standing(out={G0: (9, 1)}))


class PlainlyTest(unittest.TestCase):
    def test_rows_that_can_be_done(self):
        for chance in chances(60):
            deeds = some_row(chance, HOUSE, 25)
            told, year = walk(HOUSE, empty(HOUSE), 3, deeds)
            self.assertEqual((told, year), plainly.plain_walk(HOUSE, empty(HOUSE), 3, deeds))
            for wine in told[-1].values():
                for amount in wine.values():
                    self.assertTrue(is_fraction(amount) and amount[0] > 0)

    def test_whatever_rows(self):
        words = []
        for chance in chances(300, 1000):
            first = walk(HOUSE, empty(HOUSE), 0, some_row(chance, HOUSE, 6))[0][-1]
            deeds = [some_deed(chance, HOUSE) for _ in range(4)]
            try:
                expected = plainly.plain_walk(HOUSE, first, 5, deeds)
            except plainly.Refused as refused:
                words.append(refused.word)
                with self.assertRaises(getattr(errors, refused.word)) as caught:
                    walk(HOUSE, first, 5, deeds)
                self.assertEqual(caught.exception.at, refused.at)
            else:
                self.assertEqual(walk(HOUSE, first, 5, deeds), expected)
        self.assertGreater(words.count("Full"), 10)
        self.assertGreater(words.count("Lacking"), 10)

    def test_what_was_brought_is_in_all_places_together(self):
        for chance in chances(20, 2000):
            deeds = some_row(chance, HOUSE, 30)
            brought, year = {}, 0
            for deed in deeds:
                if deed[0] == "year":
                    year += 1
                elif deed[0] == "bring":
                    lot = (deed[1], year)
                    brought[lot] = brought.get(lot, 0) + plainly.own(deed[3])
            there = {}
            for wine in walk(HOUSE, empty(HOUSE), 0, deeds)[0][-1].values():
                for lot, amount in wine.items():
                    there[lot] = there.get(lot, 0) + plainly.own(amount)
            self.assertEqual(there, brought)


class OwnTest(unittest.TestCase):
    def test_what_is_handed_in_stays(self):
        first = standing(a={G0: (3, 1)})
        house = list(HOUSE)
        deeds = [("part", "a", "b", (1, 2)), ("bring", "gamay", "a", (1, 1)), ("all", "b", "out")]
        walk(house, first, 0, deeds)
        self.assertEqual(first, standing(a={G0: (3, 1)}))
        self.assertEqual(house, HOUSE)
        self.assertEqual(len(deeds), 3)

    def test_no_dict_is_in_two_places(self):
        first = standing(a={G0: (3, 1)})
        deeds = [("part", "a", "b", (0, 1)), ("year",), ("all", "a", "b"), ("all", "c", "out"), ("part", "b", "c", (1, 1))]
        told = walk(HOUSE, first, 0, deeds)[0]
        dicts = list(told) + [wine for one in told for wine in one.values()] + [first] + list(first.values())
        self.assertEqual(len({id(one) for one in dicts}), len(dicts))

    def test_what_was_told_stays(self):
        first = standing(a={G0: (3, 1)})
        deeds = [("year",), ("all", "a", "b")]
        told = walk(HOUSE, first, 0, deeds)
        kept = copy.deepcopy(told)
        first["a"][S0] = (1, 1)
        first["b"] = {S0: (1, 1)}
        deeds.clear()
        self.assertEqual(told, kept)
        told[0][0]["a"].clear()
        self.assertEqual(told[0][1:], kept[0][1:])
        self.assertEqual(first["a"], {G0: (3, 1), S0: (1, 1)})

    def test_arguments(self):
        self.assertEqual(list(inspect.signature(module.empty).parameters), ["house"])
        self.assertEqual(list(inspect.signature(module.walk).parameters), ["house", "standing", "year", "deeds"])


if __name__ == "__main__":
    unittest.main()
