import inspect
import itertools
import unittest

from plainly import chances
from tiercask import reader, writer
from tiercask.errors import NoText
from tiercask.reader import read
from tiercask.writer import shown

MOST = 10 ** 12 - 1

PAIRS = [
    ("", ((), ())),
    ("year", ((), (("year",),))),
    ("bring gamay tun 1", ((), (("bring", "gamay", "tun", (1, 1)),))),
    ("bring a b 7/3", ((), (("bring", "a", "b", (7, 3)),))),
    ("move a b 5", ((), (("move", "a", "b", (5, 1)),))),
    ("move a a 1/2", ((), (("move", "a", "a", (1, 2)),))),
    ("part a b 0", ((), (("part", "a", "b", (0, 1)),))),
    ("part a b 1", ((), (("part", "a", "b", (1, 1)),))),
    ("part a b 2/3", ((), (("part", "a", "b", (2, 3)),))),
    ("all a b", ((), (("all", "a", "b"),))),
    ("fill a b", ((), (("fill", "a", "b"),))),
    ("do r a", ((), (("do", "r", ("a",)),))),
    ("do r a b c d e f g h", ((), (("do", "r", tuple("abcdefgh")),))),
    ("do r a a", ((), (("do", "r", ("a", "a")),))),
    ("times 0\nend", ((), (("times", 0, ()),))),
    ("times 60\nyear\nend", ((), (("times", 60, (("year",),)),))),
    ("times 1\ntimes 2\nyear\nend\nfill a b\nend\nyear",
     ((), (("times", 1, (("times", 2, (("year",),)), ("fill", "a", "b"))), ("year",)))),
    ("rule r p\nend", ((("r", ("p",), ()),), ())),
    ("rule r a b c d e f g h\nend", ((("r", tuple("abcdefgh"), ()),), ())),
    ("rule r p q\nmove p q 1\ntimes 2\nyear\nend\nend\nrule s p\nend\ndo r a b",
     ((("r", ("p", "q"), (("move", "p", "q", (1, 1)), ("times", 2, (("year",),)))), ("s", ("p",), ())),
      (("do", "r", ("a", "b")),))),
    ("rule end rule\ndo end end\nend\ndo times year", ((("end", ("rule",), (("do", "end", ("end",)),)),),
                                                     (("do", "times", ("year",)),))),
    ("bring abcdefgh abcdefgh 999999999999", ((), (("bring", "abcdefgh", "abcdefgh", (MOST, 1)),))),
    ("bring a b 999999999999/999999999998", ((), (("bring", "a", "b", (MOST, MOST - 1)),))),
    ("part a b 1/999999999999", ((), (("part", "a", "b", (1, MOST)),))),
]

NO_ROWS = r"""
 year|year |  year|year  |YEAR|year a|years|Year|\tyear|year\t|year;|;|yea
bring a b|bring a b 0|bring a b -1|bring a b 01|bring a b 00|bring a b +1|bring a b 1.0|bring a b 1/1|bring a b 2/1
bring a b 2/4|bring a b 0/2|bring a b 1/0|bring a b 1/|bring a b /2|bring a b 1/2/3|bring a b 1 /2|bring a b 01/2
bring a b 1/02|bring a b -1/2|bring a b 1/-2|bring a b 1000000000000|bring a b 1/1000000000000|bring a b 1_0
bring a b 1000000000001/2|bring a b 0/1|bring a b x|bring a b c|bring a b 1 1|bring a  b 1|bring a b  1|bring a b 1 
bring A b 1|bring a B 1|bring a1 b 1|bring abcdefghi b 1|bring a abcdefghi 1|bring a\tb 1|bring  a b 1|bring a b\t1
move a b|move a b 0|move a b 4/2|move a 1 b|move 1 a b|move a b c 1|move a b 1 c|Move a b 1|move a 1|move
part a b 2|part a b 3/2|part a b -1|part a b|part a b 1/1|part a b 0/1|part a b 2/2|part a b 00|part a b 1000001/1000000
all a|all a b c|all a b 1|all|all a 1|all a  b|all A b|fill a|fill a b c|fill a b 1|fill|fill  a b
do|do r|do r a b c d e f g h i|do R a|do r A|do  r a|do r  a|do r a |do r 1|do 1 a|do r abcdefghi|do abcdefghi a
times|times 1|end|times 61\nend|times -1\nend|times 01\nend|times 1/2\nend|times x\nend|times 1 1\nend|times  1\nend
times 1\nend\nend|times 1\ntimes 1\nend|times 1\nend |times 1\n end|times 1\nend 1|times 100\nend|times 1\nEND
times 1\n\nend|year\n|\nyear|year\n\nyear|\n|\n\n|times\nend|times 1 \nend|times 1000000000000\nend
rule|rule r|rule r\nend|rule r p|rule r p\nyear|rule r p p\nend|rule r p q p\nend|rule R p\nend|rule r P\nend|rule r 1\nend
rule r a b c d e f g h i\nend|rule  r p\nend|rule r p \nend|rule abcdefghi p\nend|rule r abcdefghi\nend
year\nrule r p\nend|rule r p\nend\nyear\nrule s p\nend|rule r p\nrule s p\nend\nend|times 1\nrule r p\nend\nend
rule r p\nend\nrule r p\nend|rule r p\nend\nrule s p\nend\nrule r q\nend|rule r p\nend\nend|rule r p\ntimes 1\nend
rule r p\nyear\nend;|rule r p; end|year; year|year\r|year\nyear\n|rule r p\nend\n|times 0\nrule r p\nend\nend
"""


def no_texts():
    rows = NO_ROWS[1:-1].split("\n")
    return [text.replace("\\n", "\n").replace("\\t", "\t").replace("\\r", "\r") for row in rows for text in row.split("|")]


def nested(many):
    return "times 1\n" * many + "year" + "\nend" * many


class PairsTest(unittest.TestCase):
    def test_shown(self):
        for text, script in PAIRS:
            self.assertEqual(shown(script), text)

    def test_read(self):
        for text, script in PAIRS:
            self.assertEqual(read(text), script)

    def test_kinds(self):
        script = read("rule r p\ntimes 2\nyear\nend\nend\ndo r a")
        for thing in [script, script[0], script[0][0], script[0][0][1], script[0][0][2], script[0][0][2][0],
                      script[0][0][2][0][2], script[1], script[1][0], script[1][0][2]]:
            self.assertIs(type(thing), tuple)

    def test_shown_beyond_twelve_figures(self):
        self.assertEqual(shown(((), (("bring", "a", "b", (10 ** 12, 7)),))), "bring a b 1000000000000/7")


class BoundsTest(unittest.TestCase):
    def test_rows(self):
        self.assertEqual(read("\n".join(["year"] * 300)), ((), (("year",),) * 300))
        with self.assertRaises(NoText):
            read("\n".join(["year"] * 301))
        with self.assertRaises(NoText):
            read("times 1\n" + "\n".join(["year"] * 299) + "\nend")
        self.assertEqual(len(read("times 1\n" + "\n".join(["year"] * 298) + "\nend")[1][0][2]), 298)

    def test_rounds_within_one_another(self):
        self.assertEqual(shown(read(nested(8))), nested(8))
        self.assertEqual(shown(read(nested(8) + "\n" + nested(8))), nested(8) + "\n" + nested(8))
        in_rule = "rule r p\n" + nested(8) + "\nend"
        self.assertEqual(shown(read(in_rule)), in_rule)
        for text in [nested(9), "rule r p\n" + nested(9) + "\nend", nested(140)]:
            with self.assertRaises(NoText):
                read(text)

    def test_shown_beyond_the_bounds(self):
        script = (("year",),) * 301
        self.assertEqual(shown(((), script)), "\n".join(["year"] * 301))


class NoTextTest(unittest.TestCase):
    def test_no_texts(self):
        texts = no_texts()
        self.assertGreater(len(texts), 150)
        for text in texts:
            with self.subTest(text=text):
                with self.assertRaises(NoText):
                    read(text)

    def test_among_other_rows(self):
        for text in no_texts():
            if text.strip("\n") and "rule" not in text:
                with self.subTest(text=text):
                    with self.assertRaises(NoText):
                        read("rule r p\nend\nyear\n" + text)

    def test_things(self):
        for thing in [None, True, False, 0, 1, 1.5, b"", b"year", [], ["year"], (), ((), ()), {}, {"year"}, object(), str]:
            with self.assertRaises(NoText):
                read(thing)

    def test_every_short_text(self):
        # What is read is written again as it was, or it is refused: no other text is taken.
        words = ["year", "end", "times 2", "times 0", "rule r p", "rule s p", "", "do r a", "all a b"]
        taken = 0
        for many in range(1, 5):
            for rows in itertools.product(words, repeat=many):
                text = "\n".join(rows)
                try:
                    script = read(text)
                except NoText:
                    continue
                taken += 1
                self.assertEqual(shown(script), text)
        self.assertGreater(taken, 100)

    def test_one_sign_changed(self):
        text = "rule r p q\nmove p q 1/2\ntimes 12\nbring gamay p 10\nend\nend\npart a b 2/3\ndo r a b"
        self.assertEqual(shown(read(text)), text)
        for k in range(len(text)):
            for sign in ["", " ", "\n", "\t", "a", "0", "1", "/", ";", "A", "-"]:
                changed = text[:k] + sign + text[k + 1:]
                try:
                    script = read(changed)
                except NoText:
                    continue
                self.assertEqual(shown(script), changed)


def some_deeds(chance, depth):
    deeds = []
    for _ in range(chance.randint(0, 4)):
        kind = chance.choice(["bring", "move", "part", "all", "fill", "year", "times", "do"])
        names = [chance.choice(["a", "tun", "abcdefgh", "end"]) for _ in range(2)]
        if kind == "times" and depth < 8:
            deeds.append(("times", chance.randint(0, 60), some_deeds(chance, depth + 1)))
        elif kind in ("bring", "move"):
            deeds.append((kind, names[0], names[1], chance.choice([(1, 1), (7, 2), (MOST, 2)])))
        elif kind == "part":
            deeds.append((kind, names[0], names[1], chance.choice([(0, 1), (1, 1), (3, 7)])))
        elif kind in ("all", "fill"):
            deeds.append((kind, names[0], names[1]))
        elif kind == "do":
            deeds.append((kind, names[0], tuple(names[1:] * chance.randint(1, 8))))
        else:
            deeds.append(("year",))
    return tuple(deeds)


class ForthAndBackTest(unittest.TestCase):
    def test_some_scripts(self):
        for chance in chances(200):
            rules = tuple([(name, ("p", "q"), some_deeds(chance, 0)) for name in ["r", "s", "t"][:chance.randint(0, 3)]])
            script = (rules, some_deeds(chance, 0))
            if shown(script).count("\n") < 300:
                self.assertEqual(read(shown(script)), script)


class InterfaceTest(unittest.TestCase):
    def test_arguments(self):
        self.assertEqual(list(inspect.signature(writer.shown).parameters), ["script"])
        self.assertEqual(list(inspect.signature(reader.read).parameters), ["text"])


if __name__ == "__main__":
    unittest.main()
