import copy
import inspect
import unittest

from plainly import HOUSE
from tiercask import scripts
from tiercask.errors import NoCask, NoPlace, NoRule, TooMany
from tiercask.scripts import is_name, look, opened

ONE = (1, 1)


def script(*deeds, rules=()):
    return (tuple(rules), tuple(deeds))


def rule(name, params, *deeds):
    return (name, tuple(params.split()), tuple(deeds))


def do(name, places):
    return ("do", name, tuple(places.split()))


def times(many, *deeds):
    return ("times", many, tuple(deeds))


class IsNameTest(unittest.TestCase):
    def test_names(self):
        for text in ["a", "z", "ab", "abcdefgh", "zzzzzzzz", "end", "rule", "year"]:
            self.assertIs(is_name(text), True, text)

    def test_lengths(self):
        self.assertIs(is_name(""), False)
        self.assertIs(is_name("a" * 8), True)
        self.assertIs(is_name("a" * 9), False)

    def test_signs_at_each_place(self):
        for sign in ["A", "Z", "0", "9", " ", "\n", "\t", "_", "-", "`", "{", "~", "/", ";", "@", "["]:
            self.assertIs(is_name(sign), False, sign)
            for k in range(5):
                text = "abcd"[:k] + sign + "abcd"[k:]
                self.assertIs(is_name(text), False, text)

    def test_no_texts(self):
        for thing in [None, True, 0, 1, 1.5, b"abc", ["a"], ("a",), {"a": "a"}, {"a"}, object(), str]:
            self.assertIs(is_name(thing), False)


class LookTest(unittest.TestCase):
    def refused(self, error, one):
        with self.assertRaises(error):
            look(HOUSE, one)

    def test_without_fault(self):
        for one in [script(), script(("year",)), script(("bring", "out", "a", ONE)), script(("move", "a", "b", ONE)),
                    script(("move", "a", "out", ONE)), script(("part", "a", "air", ONE)), script(("all", "a", "out")),
                    script(("fill", "a", "b")), script(times(0)), script(times(3, ("fill", "b", "a"))),
                    script(do("r", "a out"), rules=[rule("r", "p q", ("move", "p", "q", ONE))]),
                    script(do("s", "out"), rules=[rule("r", "p", ("all", "a", "p")), rule("s", "x", do("r", "x"))])]:
            self.assertIsNone(look(HOUSE, one))

    def test_no_place(self):
        for deed in [("bring", "a", "d", ONE), ("move", "d", "a", ONE), ("move", "a", "d", ONE),
                     ("part", "d", "a", ONE), ("part", "a", "d", ONE), ("all", "d", "a"), ("all", "a", "d"),
                     ("fill", "d", "a"), ("fill", "a", "d"), do("r", "d"), do("s", "a d")]:
            rules = [rule("r", "p"), rule("s", "p q")]
            self.refused(NoPlace, script(deed, rules=rules))
            self.refused(NoPlace, script(times(2, deed), rules=rules))
            self.refused(NoPlace, script(times(0, deed), rules=rules))
            self.refused(NoPlace, script(rules=rules + [rule("t", "p q", deed)]))
            self.refused(NoPlace, script(rules=rules + [rule("t", "p q", times(0, times(1, deed)))]))

    def test_no_cask(self):
        for deed in [("bring", "a", "out", ONE), ("move", "out", "a", ONE), ("part", "out", "a", ONE),
                     ("all", "out", "a"), ("fill", "out", "a"), ("fill", "a", "out"), ("move", "a", "a", ONE),
                     ("part", "b", "b", ONE), ("all", "c", "c"), ("fill", "a", "a"), ("move", "out", "out", ONE)]:
            self.refused(NoCask, script(deed))
            self.refused(NoCask, script(times(0, deed)))
            self.refused(NoCask, script(rules=[rule("t", "p q", deed)]))
            self.refused(NoCask, script(rules=[rule("t", "p q", times(0, deed))]))

    def test_one_param_twice(self):
        for deed in [("move", "p", "p", ONE), ("part", "p", "p", ONE), ("all", "p", "p"), ("fill", "p", "p")]:
            self.refused(NoCask, script(rules=[rule("t", "p q", deed)]))

    def test_a_params_name_is_none_elsewhere(self):
        rules = [rule("r", "p", ("all", "a", "p"))]
        self.refused(NoPlace, script(("all", "a", "p"), rules=rules))
        self.refused(NoPlace, script(rules=rules + [rule("s", "q", ("all", "a", "p"))]))

    def test_no_rule(self):
        rules = [rule("r", "p"), rule("s", "p q")]
        for deed in [do("t", "a"), do("r", "a b"), do("s", "a"), do("s", "a b c"), do("a", "a"), do("p", "a")]:
            self.refused(NoRule, script(deed, rules=rules))
            self.refused(NoRule, script(times(0, deed), rules=rules))
            self.refused(NoRule, script(rules=rules + [rule("u", "p", deed)]))

    def test_a_rule_within_itself_or_ahead_of_its_place(self):
        self.refused(NoRule, script(rules=[rule("r", "p", do("r", "p"))]))
        self.refused(NoRule, script(rules=[rule("r", "p", do("s", "p")), rule("s", "p")]))
        self.assertIsNone(look(HOUSE, script(do("r", "a"), do("s", "a"), rules=[rule("r", "p"), rule("s", "p")])))

    def test_another_number_ahead_of_the_places(self):
        self.refused(NoRule, script(do("r", "d d"), rules=[rule("r", "p")]))
        self.refused(NoRule, script(do("t", "d"), rules=[rule("r", "p")]))
        self.refused(NoPlace, script(do("r", "a d"), rules=[rule("r", "p q")]))

    def test_a_param_hides_a_place(self):
        self.assertIsNone(look(HOUSE, script(rules=[rule("r", "out", ("all", "out", "a"))])))
        self.assertIsNone(look(HOUSE, script(rules=[rule("r", "out air", ("fill", "out", "air"))])))
        self.assertIsNone(look(HOUSE, script(rules=[rule("r", "out", ("bring", "x", "out", ONE))])))
        self.refused(NoCask, script(("all", "out", "a"), rules=[rule("r", "out", ("all", "out", "a"))]))

    def test_words_in_their_order(self):
        self.refused(NoCask, script(("move", "out", "d", ONE)))
        self.refused(NoPlace, script(("move", "d", "d", ONE)))
        self.refused(NoPlace, script(("fill", "d", "out")))
        self.refused(NoCask, script(("fill", "out", "d")))
        self.refused(NoPlace, script(("fill", "a", "d")))

    def test_the_first_fault_of_several(self):
        no_place, no_cask, no_rule = ("all", "a", "d"), ("all", "a", "a"), do("t", "a")
        for first, error in [(no_place, NoPlace), (no_cask, NoCask), (no_rule, NoRule)]:
            for second in [no_place, no_cask, no_rule]:
                self.refused(error, script(first, second))
                self.refused(error, script(times(0, first), second))
                self.refused(error, script(times(0, first, second)))
                self.refused(error, script(("year",), times(1, times(0, first)), second))
                self.refused(error, script(second, rules=[rule("r", "p", first)]))
                self.refused(error, script(rules=[rule("r", "p", first), rule("s", "p", second)]))

    def test_rounds_beyond_eight_are_not_refused(self):
        deed = ("year",)
        for _ in range(12):
            deed = times(1, deed)
        self.assertIsNone(look(HOUSE, script(deed)))
        self.assertEqual(opened(HOUSE, script(deed)), [("year",)])


class OpenedTest(unittest.TestCase):
    def test_plain(self):
        deeds = [("bring", "x", "a", (1, 2)), ("move", "a", "b", ONE), ("part", "a", "out", (0, 1)), ("all", "b", "c"),
                 ("fill", "c", "a"), ("year",)]
        self.assertEqual(opened(HOUSE, script(*deeds)), deeds)
        self.assertEqual(opened(HOUSE, script()), [])

    def test_rounds(self):
        y, f = ("year",), ("fill", "a", "b")
        self.assertEqual(opened(HOUSE, script(times(3, y, f), y)), [y, f, y, f, y, f, y])
        self.assertEqual(opened(HOUSE, script(times(2, y, times(3, f)))), [y, f, f, f, y, f, f, f])
        self.assertEqual(opened(HOUSE, script(f, times(0, y, f), times(5))), [f])
        self.assertEqual(opened(HOUSE, script(times(61, y))), [y] * 61)

    def test_rules(self):
        rules = [rule("r", "p q", ("move", "p", "q", ONE), ("part", "q", "out", (1, 2)), ("bring", "p", "p", ONE)),
                 rule("s", "q p", do("r", "p q"), ("year",), do("r", "q c"))]
        self.assertEqual(opened(HOUSE, script(do("r", "a b"), rules=rules)),
                         [("move", "a", "b", ONE), ("part", "b", "out", (1, 2)), ("bring", "p", "a", ONE)])
        self.assertEqual(opened(HOUSE, script(times(2, do("s", "b a")), rules=rules)),
                         [("move", "a", "b", ONE), ("part", "b", "out", (1, 2)), ("bring", "p", "a", ONE), ("year",),
                          ("move", "b", "c", ONE), ("part", "c", "out", (1, 2)), ("bring", "p", "b", ONE)] * 2)

    def test_a_rule_never_done(self):
        rules = [rule("r", "p", ("all", "a", "p"))]
        self.assertEqual(opened(HOUSE, script(("year",), rules=rules)), [("year",)])

    def test_a_param_is_no_place_of_the_house_within_another_rule(self):
        rules = [rule("r", "p", ("all", "p", "b")), rule("s", "b", do("r", "b"))]
        self.assertEqual(opened(HOUSE, script(do("s", "a"), rules=rules)), [("all", "a", "b")])
        rules = [rule("r", "a b", ("all", "a", "b")), rule("s", "a b", do("r", "b a"))]
        self.assertEqual(opened(HOUSE, script(do("s", "c b"), rules=rules)), [("all", "b", "c")])

    def test_params_that_do_not_fit(self):
        rules = [rule("move", "p q", ("move", "p", "q", ONE)), rule("fill", "p q", ("fill", "p", "q")),
                 rule("bring", "p", ("bring", "x", "p", ONE)), rule("own", "p", ("all", "p", "a")),
                 rule("deep", "p q", do("move", "q p"))]
        for deed in [do("move", "out a"), do("move", "a a"), do("move", "out out"), do("fill", "a out"),
                     do("fill", "out a"), do("bring", "air"), do("own", "a"), do("own", "out"), do("deep", "a out"),
                     do("deep", "b b")]:
            one = script(deed, rules=rules)
            self.assertIsNone(look(HOUSE, one))
            with self.assertRaises(NoCask):
                opened(HOUSE, one)
            with self.assertRaises(NoCask):
                opened(HOUSE, script(("year",), times(2, deed), rules=rules))
            self.assertEqual(opened(HOUSE, script(times(0, deed), ("year",), rules=rules)), [("year",)])
            self.assertEqual(opened(HOUSE, script(times(3, times(0, deed)), rules=rules)), [])
        self.assertEqual(opened(HOUSE, script(do("move", "a out"), rules=rules)), [("move", "a", "out", ONE)])

    def test_nothing_is_looked_at_within_a_round_of_0_in_a_rule(self):
        rules = [rule("r", "p", times(0, ("all", "p", "a")), ("year",))]
        self.assertEqual(opened(HOUSE, script(do("r", "a"), do("r", "out"), rules=rules)), [("year",)] * 2)

    def test_200_and_201(self):
        self.assertEqual(opened(HOUSE, script(*[("year",)] * 200)), [("year",)] * 200)
        for one in [script(*[("year",)] * 201), script(times(50, times(4, ("year",))), ("year",)),
                    script(times(60, *[("year",)] * 4))]:
            with self.assertRaises(TooMany):
                opened(HOUSE, one)
        self.assertEqual(len(opened(HOUSE, script(times(50, times(4, ("year",)))))), 200)

    def test_200_in_a_rule(self):
        rules = [rule("r", "p", times(50, ("year",), ("all", "p", "b"), ("year",), ("year",))), rule("s", "p", do("r", "p"))]
        deeds = [("year",), ("all", "a", "b"), ("year",), ("year",)] * 50
        self.assertEqual(opened(HOUSE, script(do("s", "a"), rules=rules)), deeds)
        with self.assertRaises(TooMany):
            opened(HOUSE, script(do("s", "a"), ("year",), rules=rules))

    def test_far_too_many(self):
        rules = [rule("r", "p", ("year",))]
        for k in range(96):
            rules.append(rule("r" + "abcdefghij"[k // 10] + "abcdefghij"[k % 10], "p", *[do(rules[-1][0], "p")] * 2))
        one = script(do(rules[-1][0], "a"), rules=rules)
        self.assertIsNone(look(HOUSE, one))
        with self.assertRaises(TooMany):
            opened(HOUSE, one)
        self.assertEqual(opened(HOUSE, script(times(0, do(rules[-1][0], "a")), rules=rules)), [])
        self.assertEqual(len(opened(HOUSE, script(do(rules[7][0], "a"), rules=rules))), 128)

    def test_many_rules_of_nothing(self):
        rules = [rule("r", "p")]
        for k in range(96):
            rules.append(rule("r" + "abcdefghij"[k // 10] + "abcdefghij"[k % 10], "p", *[do(rules[-1][0], "p")] * 2))
        deed = do(rules[-1][0], "a")
        for _ in range(8):
            deed = times(60, deed, deed)
        self.assertEqual(opened(HOUSE, script(deed, rules=rules)), [])

    def test_too_many_ahead_of_no_cask(self):
        rules = [rule("r", "p", ("all", "p", "a"))]
        with self.assertRaises(TooMany):
            opened(HOUSE, script(do("r", "out"), *[("year",)] * 200, rules=rules))
        with self.assertRaises(NoCask):
            opened(HOUSE, script(do("r", "out"), *[("year",)] * 199, rules=rules))


class OwnTest(unittest.TestCase):
    def test_what_is_handed_in_stays(self):
        house = copy.deepcopy(HOUSE)
        one = script(do("r", "a"), rules=[rule("r", "p", ("all", "p", "b"))])
        look(house, one)
        deeds = opened(house, one)
        deeds.append(("year",))
        self.assertEqual(house, HOUSE)
        self.assertEqual(opened(house, one), [("all", "a", "b")])
        self.assertIs(type(opened(house, one)), list)

    def test_arguments(self):
        for name, arguments in [("is_name", ["thing"]), ("look", ["house", "script"]),
                                ("opened", ["house", "script"])]:
            self.assertEqual(list(inspect.signature(getattr(scripts, name)).parameters), arguments)


if __name__ == "__main__":
    unittest.main()
