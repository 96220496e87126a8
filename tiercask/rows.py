"""Rows that a desk is told, taken apart into their words and numbers."""

from tiercask.errors import NoRow
from tiercask.reader import amount_read, number_read, share_read, whole_read
from tiercask.scripts import is_name

# What stands behind the first word; a name is any word here, whether it fits is for the desk to say.
FORMS = {
    "cask": ("name", "amount"), "sink": ("name",), "strike": ("whole",), "undo": (), "year": (), "deeds": (),
    "show": ("name",), "total": ("name",), "forth": ("whole",), "back": ("name",), "way": ("whole", "name"),
    "kept": ("name", "name"), "lacks": ("name", "name", "name"),
}
MOST_CONDITIONS = 5
MOST_PICK_WORDS = 20
MOST_PAIRS = 8


def given(value):
    if value is None:
        raise NoRow("a number is not written as it is wanted")
    return value


def value_of(kind, word):
    if kind == "whole":
        return given(whole_read(word))
    if kind == "amount":
        return given(amount_read(word))
    return word


def pick_from(words):
    # The pick that words begin with, and the words behind it.
    if len(words) > 1 and words[0] == "name" and is_name(words[1]):
        return (("name", words[1]), words[2:])
    if len(words) > 2 and words[0] == "years":
        return (("years", given(whole_read(words[1])), given(whole_read(words[2]))), words[3:])
    if len(words) > 1 and words[0] == "old":
        return (("old", given(whole_read(words[1]))), words[2:])
    if len(words) > 1 and words[0] == "not":
        inner = pick_from(words[1:])
        return (("not", inner[0]), inner[1])
    if len(words) > 2 and words[0] in ("both", "one"):
        left = pick_from(words[1:])
        right = pick_from(left[1])
        return ((words[0], left[0], right[0]), right[1])
    raise NoRow("this is no pick")


def pick_read(words):
    if len(words) > MOST_PICK_WORDS:
        raise NoRow("a pick has more than twenty words")
    found = pick_from(words)
    if len(found[1]) > 0:
        raise NoRow("there are words behind a pick")
    return found[0]


def condition_read(text):
    words = text.split(" ")
    if words[0] == "mean" and len(words) == 2:
        return ("mean", (given(whole_read(words[1])), 1))
    if words[0] in ("least", "most") and len(words) > 2:
        return (words[0], given(share_read(words[1])), pick_read(words[2:]))
    raise NoRow("this is no condition")


def label_read(row):
    parts = row.split(" ", 2)
    if len(parts) < 3:
        raise NoRow("a label has conditions")
    conditions = [condition_read(text) for text in parts[2].split("; ")]
    if len(conditions) > MOST_CONDITIONS:
        raise NoRow("a label has more than five conditions")
    return ["label", parts[1], conditions]


def blend_read(words):
    pairs = words[3:]
    if len(pairs) < 2 or len(pairs) % 2 == 1 or len(pairs) > 2 * MOST_PAIRS:
        raise NoRow("a blend is of one to eight pairs")
    amount = given(amount_read(words[2]))
    prices = [given(number_read(word)) for word in pairs[1::2]]
    return ["blend", words[1], amount, list(zip(pairs[0::2], prices))]


def row_read(row):
    if not isinstance(row, str) or "\n" in row:
        raise NoRow("a row is a text of one row")
    if row.startswith("run "):
        return ["run", row[4:]]
    words = row.split(" ")
    if "" in words:
        raise NoRow("a word has no signs")
    if words[0] == "label":
        return label_read(row)
    if words[0] == "blend":
        return blend_read(words)
    if words[0] not in FORMS or len(FORMS[words[0]]) != len(words) - 1:
        raise NoRow("there is no such row")
    return [words[0]] + [value_of(kind, word) for kind, word in zip(FORMS[words[0]], words[1:])]
