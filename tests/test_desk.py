import inspect
import unittest

from plainly import chances, own
from tiercask import errors
from tiercask.blends import blend
from tiercask.desk import Desk
from tiercask.errors import TierError
from tiercask.labels import kept, lacks

PLACES = ["cask a 10", "cask b 5", "sink out", "cask c 7/2", "sink air"]
RUNS = ["run bring gamay a 4; year; bring syrah a 2", "run part a b 1/2; year; move b out 1; bring gamay c 1/2"]
ASKED = ["year", "deeds"] + [f"{word} {place}" for word in ["show", "total", "back"] for place in ["a", "b", "c", "out", "air"]]


def desk_of(*rows):
    desk = Desk()
    for row in rows:
        desk.say(row)
    return desk


def full_desk():
    return desk_of(*PLACES, *RUNS, "label fine least 1/2 name gamay; mean 1")


def state(desk):
    told = []
    for row in ASKED + [f"forth {k}" for k in range(4)] + ["kept fine a", "kept good a"]:
        try:
            told.append(desk.say(row))
        except TierError as error:
            told.append(type(error).__name__)
    return told


class DeskTest(unittest.TestCase):
    def refused(self, word, desk, row):
        before = state(desk)
        with self.assertRaises(getattr(errors, word), msg=repr(row)) as caught:
            desk.say(row)
        self.assertIs(type(caught.exception), getattr(errors, word), row)
        self.assertEqual(state(desk), before, row)
        return caught.exception


class RowsTest(DeskTest):
    def test_a_new_desk(self):
        desk = Desk()
        self.assertEqual((desk.say("year"), desk.say("deeds")), ("0", "0"))
        for word, row in [("NoName", "show a"), ("NoDeed", "strike 0"), ("NoChange", "undo"), ("NoDeed", "forth 0"),
                          ("NoName", "back a"), ("NoName", "kept fine a"), ("NoDeed", "way 0 a"), ("NoChange", "run year"),
                          ("NoName", "blend fine 1 a 1")]:
            self.refused(word, desk, row)

    def test_places(self):
        desk = Desk()
        for row in PLACES:
            self.assertEqual(desk.say(row), "ok")
        for place in ["a", "b", "c", "out", "air"]:
            self.assertEqual(desk.say(f"show {place}"), "none")
            self.assertEqual(desk.say(f"total {place}"), "0")
            self.assertEqual(desk.say(f"back {place}"), "none")

    def test_run(self):
        desk = desk_of(*PLACES)
        for row in RUNS:
            self.assertEqual(desk.say(row), "ok")
        self.assertEqual((desk.say("year"), desk.say("deeds")), ("2", "7"))
        self.assertEqual(desk.say("show a"), "gamay 0 2; syrah 1 1")
        self.assertEqual(desk.say("show b"), "gamay 0 4/3; syrah 1 2/3")
        self.assertEqual(desk.say("show out"), "gamay 0 2/3; syrah 1 1/3")
        self.assertEqual(desk.say("show c"), "gamay 2 1/2")
        self.assertEqual(desk.say("show air"), "none")
        self.assertEqual([desk.say(f"total {place}") for place in ["a", "b", "c", "out", "air"]], ["3", "2", "1/2", "1", "0"])

    def test_run_rules_and_rounds(self):
        desk = desk_of(*PLACES, "run rule r p q; move p q 1/2; year; end; bring gamay a 5; times 3; do r a b; end; do r b out")
        self.assertEqual(desk.say("show b"), "gamay 0 1")
        self.assertEqual((desk.say("year"), desk.say("deeds")), ("4", "9"))

    def test_run_nothing(self):
        desk = desk_of(*PLACES)
        self.assertEqual(desk.say("run "), "ok")
        self.assertEqual(desk.say("deeds"), "0")
        self.refused("NoChange", desk, "sink more")
        self.assertEqual(desk.say("undo"), "ok")
        self.refused("NoChange", desk, "undo")
        self.refused("NoRow", desk, "run")

    def test_strike_and_undo(self):
        desk = full_desk()
        self.assertEqual(desk.say("strike 1"), "ok")
        self.assertEqual(desk.say("show a"), "gamay 0 2; syrah 0 1")
        self.assertEqual((desk.say("year"), desk.say("deeds")), ("1", "6"))
        self.assertEqual(desk.say("undo"), "ok")
        self.assertEqual(desk.say("show a"), "gamay 0 2; syrah 1 1")
        self.assertEqual(self.refused("Tied", desk, "strike 3").at, 5)
        self.refused("NoDeed", desk, "strike 7")
        self.refused("NoDeed", desk, "strike 999999999999")
        desk.say("undo")
        self.assertEqual(desk.say("show a"), "gamay 0 4; syrah 1 2")
        desk.say("undo")
        self.assertEqual(desk.say("show a"), "none")
        self.refused("NoChange", desk, "undo")

    def test_traces(self):
        desk = full_desk()
        self.assertEqual(desk.say("forth 0"), "a 1/2; b 1/3; out 1/6")
        self.assertEqual(desk.say("forth 2"), "c 1")
        self.assertEqual(desk.say("back b"), "0 2/3; 1 1/3")
        self.assertEqual(desk.say("back c"), "2 1")
        self.assertEqual(desk.say("back air"), "none")
        self.assertEqual(desk.say("way 0 out"), "a a b out out")
        self.assertEqual(desk.say("way 1 a"), "a a a a")
        self.assertEqual(desk.say("way 2 c"), "c")
        self.assertEqual(desk.say("way 2 a"), "none")
        for row in ["forth 3", "way 3 a", "forth 999999999999"]:
            self.refused("NoDeed", desk, row)

    def test_forth_in_the_houses_order(self):
        desk = desk_of("sink z", "cask b 9", "cask a 9", "run bring x b 9; part b z 1/3; part b a 1/2")
        self.assertEqual(desk.say("forth 0"), "z 1/3; b 1/3; a 1/3")

    def test_labels(self):
        desk = full_desk()
        self.assertEqual(desk.say("kept fine a"), "yes")
        self.assertEqual(desk.say("kept fine c"), "no")
        self.assertEqual(desk.say("kept fine air"), "yes")
        self.assertEqual(desk.say("lacks fine c a"), "3/4")
        self.assertEqual(desk.say("lacks fine c b"), "3/4")
        self.assertEqual(desk.say("lacks fine c air"), "none")
        self.assertEqual(desk.say("lacks fine c c"), "none")
        self.assertEqual(desk.say("lacks fine a c"), "0")
        self.assertEqual(desk.say("label fine most 0 name gamay"), "ok")
        self.assertEqual(desk.say("kept fine a"), "no")
        self.assertEqual(desk.say("lacks fine a b"), "none")

    def test_labels_called_like_places(self):
        desk = full_desk()
        self.assertEqual(desk.say("label a most 1 name x"), "ok")
        self.assertEqual(desk.say("label kept mean 0"), "ok")
        self.assertEqual(desk.say("kept a a"), "yes")
        self.assertEqual(desk.say("kept kept c"), "yes")
        self.refused("NoName", desk, "kept b a")
        self.refused("NoName", desk, "show kept")
        other = desk_of("label a mean 0")
        self.assertEqual(other.say("cask a 1"), "ok")
        self.assertEqual(other.say("kept a a"), "yes")

    def test_picks(self):
        desk = full_desk()
        for pick, told in [("name gamay", "yes"), ("name syrah", "no"), ("years 0 0", "yes"), ("years 1 5", "no"),
                           ("years 5 0", "no"), ("old 2", "yes"), ("old 3", "no"), ("old 0", "yes"), ("not name syrah", "yes"),
                           ("both name gamay old 2", "yes"), ("both name gamay old 3", "no"), ("one name x name gamay", "yes"),
                           ("one name x name y", "no"), ("not both not name x name y", "yes"),
                           ("one both name x name y not not old 1", "yes"), ("years 0 999999999999", "yes"),
                           ("not " * 18 + "name gamay", "yes"), ("one name x " * 6 + "name gamay", "yes")]:
            self.assertEqual(desk.say(f"label good least 2/3 {pick}"), "ok")
            self.assertEqual(desk.say("kept good a"), told, pick)

    def test_conditions(self):
        desk = full_desk()
        for conditions, told in [("least 2/3 name gamay", "yes"), ("least 667/1000 name gamay", "no"),
                                 ("most 2/3 name gamay", "yes"), ("most 333/500 name gamay", "no"), ("mean 1", "yes"),
                                 ("mean 2", "no"), ("mean 1; mean 2", "no"), ("mean 0; mean 1; most 1 name x", "yes"),
                                 ("mean 1; mean 1; mean 1; mean 1; mean 2", "no"), ("least 0 name x; least 1 old 0", "yes")]:
            self.assertEqual(desk.say(f"label good {conditions}"), "ok")
            self.assertEqual(desk.say("kept good a"), told, conditions)

    def test_blends(self):
        desk = full_desk()
        self.assertEqual(desk.say("blend fine 2 a 1 b 2"), "2 0")
        self.assertEqual(desk.say("blend fine 4 b 2 a 1"), "1 3")
        self.assertEqual(desk.say("blend fine 5 a 0 b 0"), "3 2")
        self.assertEqual(desk.say("blend fine 5001/1000 a 1 b 2"), "none")
        self.assertEqual(desk.say("blend fine 1 c 0"), "none")
        self.assertEqual(desk.say("blend fine 1 c 0 a 7/3"), "2/5 3/5")
        self.assertEqual(desk.say("blend fine 1 c 0 a 1/1000"), "2/5 3/5")
        self.assertEqual(desk.say("label all least 0 name x"), "ok")
        self.assertEqual(desk.say("blend all 1/3 c 9"), "1/3")


    def test_eight_pairs(self):
        desk = desk_of(*[f"cask {letter} 2" for letter in "abcdefghi"], "label all mean 0",
                       "run " + "; ".join([f"bring x {letter} 1" for letter in "abcdefghi"]))
        row = "blend all 15/2" + "".join([f" {letter} {price}" for price, letter in enumerate("abcdefgh")])
        self.assertEqual(desk.say(row), "1 1 1 1 1 1 1 1/2")
        self.refused("NoRow", desk, row + " i 9")
        self.refused("NoRow", desk, row + " i")


class NoRowTest(DeskTest):
    def test_no_texts(self):
        desk = full_desk()
        for thing in [None, True, 0, 1.5, b"year", ["year"], ("year",), {}, object()]:
            self.refused("NoRow", desk, thing)

    def test_none_of_those_listed(self):
        desk = full_desk()
        for row in ["", " ", "year ", " year", "year  ", "year 1", "deeds 1", "undo 1", "undo ", "Year", "years", "cask", "cask x",
                    "cask x 1 2", "cask 1", "sink", "sink x y", "run", "runyear", "Run year", "strike", "strike 1 2", "label", "label x",
                    "show", "show a b", "total", "total a b", "forth", "forth 0 0", "back", "back a b", "way", "way 0", "way 0 a a",
                    "kept", "kept fine", "kept fine a b", "lacks", "lacks fine", "lacks fine a", "lacks fine a b c", "blend",
                    "blend fine", "blend fine 1", "blend fine 1 a", "blend fine 1 a 1 b", "help", "show  a", "show a ", " show a",
                    "cask  x 1", "label  x mean 1", "label x  mean 1", "label x mean 1 ", "blend fine  1 a 1", "year\t", "show\ta",
                    "blend fine 1 a 1 b 1 c 1 d 1 e 1 f 1 g 1 h 1 i 1", "deed", "strike  1", "ok"]:
            self.refused("NoRow", desk, row)

    def test_line_feeds(self):
        desk = full_desk()
        for row in ["year\n", "\nyear", "run year\nyear", "run \n", "show a\n", "label x mean 1;\nmean 2", "run year; year\n"]:
            self.refused("NoRow", desk, row)

    def test_numbers(self):
        desk = full_desk()
        for number in ["-1", "+1", "01", "00", "1.0", "x", "1/1", "2/4", "1/0", "1/", "/2", "1/2/3", "1000000000000",
                       "1/1000000000000", "1_0", "0x1", "1,", "1;"]:
            for row in [f"cask x {number}", f"strike {number}", f"forth {number}", f"way {number} a", f"blend fine {number} a 1",
                        f"blend fine 1 a {number}", f"label x least {number} name a", f"label x most {number} name a",
                        f"label x mean {number}", f"label x least 1 old {number}", f"label x least 1 years {number} 2",
                        f"label x least 1 years 2 {number}"]:
                self.refused("NoRow", desk, row)

    def test_whole_ones(self):
        desk = full_desk()
        for row in ["strike 1/2", "forth 1/2", "way 1/2 a", "label x mean 1/2", "label x least 1 old 1/2",
                    "label x least 1 years 1/2 2", "label x least 1 years 0 5/2"]:
            self.refused("NoRow", desk, row)

    def test_bounds(self):
        desk = desk_of("cask a 1")
        for row in ["cask x 0", "blend fine 0 a 1", "label x least 2 name a", "label x most 3/2 name a",
                    "label x least 1000001/1000000 name a"]:
            self.refused("NoRow", desk, row)
        self.assertEqual(desk.say("cask x 1/999999999999"), "ok")
        self.assertEqual(desk.say("cask y 999999999999"), "ok")

    def test_conditions_and_picks(self):
        desk = full_desk()
        for conditions in ["x", "least", "least 1", "least name a", "least 1 name", "least 1 name A", "least 1 name abcdefghi",
                           "least 1 name a1", "least 1 name a b", "least 1 name a name b", "most 1", "mean", "mean 1 2", "mean x",
                           "mean 1;", "mean 1; ", "; mean 1", "mean 1;mean 2", "mean 1 ; mean 2", "mean 1;; mean 2",
                           "mean 1; ; mean 2", "mean 1; x", "least 1 years 1", "least 1 years", "least 1 years 1 2 3", "least 1 old",
                           "least 1 old 1 2", "least 1 both name a", "least 1 both", "least 1 one name a", "least 1 not",
                           "least 1 not not", "least 1 not name a name b", "least 1 both name a name b name c", "least 1 name 1",
                           "Least 1 name a", "least 1 Name a", "least 1 x a", "least 1 x name a name b", "x 1 name a", "mean 1; mean 1; mean 1; mean 1; mean 1; mean 1",
                           "least 1 " + "not " * 19 + "name a", "least 1 " + "one name x " * 6 + "not name gamay x",
                           "least 1 " + "both " * 19 + "name a", "all name a"]:
            self.refused("NoRow", desk, f"label good {conditions}")

    def test_ahead_of_all_others(self):
        desk = full_desk()
        for row in ["cask A 0", "cask a 01", "show A b", "label A mean x", "kept A", "way 99 X x", "blend x 0 x 1",
                    "blend x 1 x 01", "blend x 1 a 1 a"]:
            self.refused("NoRow", desk, row)
        self.refused("NoRow", Desk(), "run year\n")
        self.refused("NoRow", Desk(), "run")


class NamesTest(DeskTest):
    def test_no_names_of_new_places(self):
        desk = desk_of(*PLACES)
        for name in ["A", "a1", "abcdefghi", "a;", "1", "~", "a", "b", "out", "air"]:
            self.refused("NoName", desk, f"cask {name} 1")
            self.refused("NoName", desk, f"sink {name}")

    def test_unknown_names(self):
        desk = full_desk()
        for name in ["x", "A", "abcdefghi", "fine", "1", "gamay"]:
            for row in [f"show {name}", f"total {name}", f"back {name}", f"way 0 {name}", f"kept fine {name}",
                        f"lacks fine {name} a", f"lacks fine a {name}", f"blend fine 1 {name} 1", f"blend fine 1 a 1 {name} 1"]:
                self.refused("NoName", desk, row)
        for name in ["a", "A", "abcdefghi", "good"]:
            for row in [f"kept {name} a", f"lacks {name} a b", f"blend {name} 1 a 1"]:
                self.refused("NoName", desk, row)
        for name in ["A", "abcdefghi", "a1", "1"]:
            self.refused("NoName", desk, f"label {name} mean 1")

    def test_no_cask(self):
        desk = full_desk()
        desk.say("run all c out")
        for row in ["blend fine 1 out 1", "blend fine 1 air 1", "blend fine 1 a 1 out 1", "blend fine 1 a 1 a 1",
                    "blend fine 1 a 1 b 1 a 2", "blend fine 1 c 1", "blend fine 1 a 1 c 1"]:
            self.refused("NoCask", desk, row)

    def test_the_first_word_from_the_left(self):
        desk = full_desk()
        for word, row in [("NoDeed", "way 9 x"), ("NoName", "way 0 x"), ("NoName", "blend x 1 out 1"), ("NoCask", "blend fine 1 out 1 x 1"),
                          ("NoName", "blend fine 1 x 1 out 1"), ("NoCask", "blend fine 1 a 1 a 1 x 1"),
                          ("NoName", "blend fine 1 a 1 x 1 a 1"), ("NoName", "lacks x y z")]:
            self.refused(word, desk, row)

    def test_a_blend_beyond_reach_is_no_refusal(self):
        self.assertEqual(full_desk().say("blend fine 999999999999 a 1"), "none")


class TooManyTest(DeskTest):
    def test_casks(self):
        desk = desk_of(*[f"cask {letter} 1" for letter in "abcdefghijkl"])
        self.refused("TooMany", desk, "cask m 1")
        self.refused("NoName", desk, "cask a 1")
        self.refused("NoRow", desk, "cask m 0")
        for letter in "mnopqrst":
            self.assertEqual(desk.say(f"sink {letter}"), "ok")
        self.refused("TooMany", desk, "sink u")
        self.refused("TooMany", desk, "cask u 1")
        self.refused("NoName", desk, "sink t")
        self.refused("NoName", desk, "sink T")
        self.assertEqual(desk.say("run bring x a 1"), "ok")
        self.refused("NoChange", desk, "sink u")

    def test_sinks_first(self):
        desk = desk_of(*[f"sink {letter}" for letter in "abcdefghijklmnopqrs"])
        self.refused("NoChange", desk, "run year")
        self.assertEqual(desk.say("cask t 1"), "ok")
        self.refused("TooMany", desk, "cask u 1")

    def test_deeds(self):
        desk = desk_of(*PLACES)
        self.refused("TooMany", desk, "run times 60; year; year; year; year; end")
        self.assertEqual(desk.say("run times 50; year; year; year; year; end"), "ok")
        self.assertEqual(desk.say("run year"), "ok")
        self.assertEqual(desk.say("deeds"), "201")


class NoChangeTest(DeskTest):
    def test_places_behind_the_first_putting(self):
        desk = desk_of("cask a 1")
        self.assertEqual(desk.say("sink b"), "ok")
        desk.say("run bring x a 1")
        for row in ["cask c 1", "sink c", "cask a 1", "sink A"]:
            self.refused("NoChange", desk, row)
        desk.say("undo")
        for row in ["cask c 1", "sink c", "cask a 1", "sink A"]:
            self.refused("NoChange", desk, row)

    def test_a_refused_running_is_no_putting(self):
        desk = desk_of("cask a 1")
        for word, row in [("Full", "run bring x a 2"), ("NoText", "run x"), ("NoPlace", "run all a b"), ("Lacking", "run move a s 1")]:
            if word == "Lacking":
                self.assertEqual(desk.say("sink s"), "ok")
            self.refused(word, desk, row)
        self.assertEqual(desk.say("cask b 1"), "ok")
        self.assertEqual(desk.say("run bring x a 1; all a b"), "ok")

    def test_without_any_cask(self):
        desk = desk_of("sink s")
        for row in ["run year", "run ", "run x", "run all s s", "run  "]:
            self.refused("NoChange", desk, row)
        self.assertEqual(desk.say("cask a 1"), "ok")
        self.assertEqual(desk.say("run year"), "ok")


class RunTest(DeskTest):
    def test_as_the_stages_tell(self):
        desk = full_desk()
        for word, row in [("NoText", "run x"), ("NoText", "run year;year"), ("NoText", "run year; "), ("NoText", "run  year"),
                          ("NoText", "run year  "), ("NoText", "run ; year"), ("NoText", "run end"), ("NoText", "run times 1; year"),
                          ("NoText", "run  "), ("NoText", "run bring x a 0"), ("NoText", "run bring x a 01"), ("NoText", "run year;; year"),
                          ("NoPlace", "run all a x"), ("NoCask", "run all out a"), ("NoCask", "run all a a"), ("NoRule", "run do r a"),
                          ("NoCask", "run rule r p; all p a; end; do r out"), ("NoText", "run part a b 2"),
                          ("NoText", "run move a\tb 1"), ("NoText", "run bring x a 1; rule r p; end")]:
            self.refused(word, desk, row)
        self.assertEqual(self.refused("Lacking", desk, "run year; move a out 4").at, 8)
        self.assertEqual(self.refused("Full", desk, "run bring x b 4").at, 7)
        self.refused("NoText", desk, "run " + "; ".join(["year"] * 301))


class WrittenTest(DeskTest):
    def test_wines_sorted_by_lots(self):
        desk = desk_of("cask a 9", "run year; bring b a 1; bring ab a 1/2; year; bring b a 1/3; bring a a 1")
        self.assertEqual(desk.say("show a"), "a 2 1; ab 1 1/2; b 1 1; b 2 1/3")

    def test_years_by_number(self):
        desk = desk_of("cask a 99", "run bring b a 1; times 10; year; end; bring b a 1; times 2; year; end; bring b a 1")
        self.assertEqual(desk.say("show a"), "b 0 1; b 10 1; b 12 1")

    def test_every_answer_is_a_text(self):
        desk = full_desk()
        for row in ASKED + ["forth 0", "way 0 a", "kept fine a", "lacks fine a b", "blend fine 1 a 1", "strike 6", "undo", "run "]:
            self.assertIs(type(desk.say(row)), str)


class AgainstTheStagesTest(DeskTest):
    def test_labels_and_blends(self):
        desk = full_desk()
        now = 2
        label = [("least", (1, 2), ("name", "gamay")), ("mean", (1, 1))]
        wines = {}
        for place in ["a", "b", "c", "out"]:
            wine = {}
            for part in desk.say(f"show {place}").split("; "):
                name, year, amount = part.split(" ")
                top, _, bottom = amount.partition("/")
                wine[(name, int(year))] = (int(top), int(bottom or 1))
            wines[place] = wine
        for place, wine in wines.items():
            self.assertEqual(desk.say(f"kept fine {place}"), "yes" if kept(label, wine, now) else "no")
            for other in wines:
                least = lacks(label, wine, wines[other], now)
                text = "none" if least is None else str(own(least))
                self.assertEqual(desk.say(f"lacks fine {place} {other}"), text)
        for chance in chances(20):
            prices = [chance.randint(0, 3) for _ in range(3)]
            told = blend([(wines[place], (price, 1)) for place, price in zip("abc", prices)], ((3, 1), label), now)
            row = "blend fine 3 " + " ".join([f"{place} {price}" for place, price in zip("abc", prices)])
            self.assertEqual(desk.say(row), " ".join([str(own(amount)) for amount in told[1]]))


class OwnTest(DeskTest):
    def test_two_desks_are_apart(self):
        one = full_desk()
        self.assertEqual(Desk().say("deeds"), "0")
        self.refused("NoName", Desk(), "kept fine a")
        self.assertEqual(one.say("deeds"), "7")

    def test_arguments(self):
        self.assertEqual(list(inspect.signature(Desk).parameters), [])
        self.assertEqual(list(inspect.signature(Desk.say).parameters), ["self", "row"])


if __name__ == "__main__":
    unittest.main()
