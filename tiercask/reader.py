"""Scripts and numbers as they are read."""

from tiercask.errors import NoText
from tiercask.scripts import is_name
from tiercask.shares import is_fraction

FIGURES = "0123456789"
MOST_FIGURES = 12
MOST_ROWS = 300
MOST_WITHIN = 8
MOST_PLACES = 8
MOST_TIMES = 60


def whole_read(word):
    if len(word) < 1 or len(word) > MOST_FIGURES:
        return None
    if not all([figure in FIGURES for figure in word]):
        return None
    if word[0] == "0" and word != "0":
        return None
    return int(word)


def number_read(word):
    parts = word.split("/")
    top = whole_read(parts[0])
    if top is None or len(parts) > 2:
        return None
    if len(parts) == 1:
        return (top, 1)
    bottom = whole_read(parts[1])
    if bottom is None or bottom < 2 or not is_fraction((top, bottom)):
        return None
    return (top, bottom)


def amount_read(word):
    amount = number_read(word)
    if amount is None or amount[0] == 0:
        return None
    return amount


def share_read(word):
    share = number_read(word)
    if share is None or share[0] > share[1]:
        return None
    return share


def check_names(words, least):
    if len(words) < least or not all([is_name(word) for word in words]):
        raise NoText("these are no names as they are wanted")


def measured(words, number):
    if number is None:
        raise NoText("a number is not written as it is wanted")
    check_names(words[1:3], 2)
    return (words[0], words[1], words[2], number)


def deed_read(words):
    if words == ["year"]:
        return ("year",)
    if words[0] == "do" and len(words) <= MOST_PLACES + 2:
        check_names(words[1:], 2)
        return ("do", words[1], tuple(words[2:]))
    if words[0] in ("all", "fill") and len(words) == 3:
        check_names(words[1:], 2)
        return tuple(words)
    if words[0] in ("bring", "move") and len(words) == 4:
        return measured(words, amount_read(words[3]))
    if words[0] == "part" and len(words) == 4:
        return measured(words, share_read(words[3]))
    raise NoText("a row is no deed")


def times_head(words, blocks):
    within = [block for block in blocks if block[0] == "times"]
    many = whole_read(words[1]) if len(words) == 2 else None
    if many is None or many > MOST_TIMES or len(within) == MOST_WITHIN:
        raise NoText("a round is not as it is wanted")
    return ("times", many, [])


def rule_head(words, blocks, rules):
    # Rules stand ahead of all deeds, and in nothing.
    if len(blocks) > 1 or len(blocks[0][2]) > 0 or len(words) > MOST_PLACES + 2:
        raise NoText("a rule is not where or as it is wanted")
    check_names(words[1:], 2)
    params = tuple(words[2:])
    if len(set(params)) != len(params) or words[1] in [rule[0] for rule in rules]:
        raise NoText("a name is there twice")
    return ("rule", (words[1], params), [])


def end_block(blocks, rules):
    if len(blocks) == 1:
        raise NoText("there is an end too many")
    block = blocks.pop()
    deeds = tuple(block[2])
    if block[0] == "rule":
        rules.append(block[1] + (deeds,))
    else:
        blocks[len(blocks) - 1][2].append(("times", block[1], deeds))


def read_rows(rows):
    # A block is its kind, what its head says, and its deeds so far; the first one is the script's own.
    blocks = [("script", None, [])]
    rules = []
    for row in rows:
        words = row.split(" ")
        if words[0] == "rule":
            blocks.append(rule_head(words, blocks, rules))
        elif words[0] == "times":
            blocks.append(times_head(words, blocks))
        elif words == ["end"]:
            end_block(blocks, rules)
        else:
            blocks[len(blocks) - 1][2].append(deed_read(words))
    if len(blocks) > 1:
        raise NoText("there is an end too few")
    return (tuple(rules), tuple(blocks[0][2]))


def read(text):
    if not isinstance(text, str):
        raise NoText("only a text is read")
    if text == "":
        return ((), ())
    rows = text.split("\n")
    if len(rows) > MOST_ROWS:
        raise NoText("there are more than 300 rows")
    return read_rows(rows)
