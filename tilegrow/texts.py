"""Floors, rules and numbers as texts."""

from tilegrow.errors import NoText
from tilegrow.floors import floor_good
from tilegrow.rules import first_unblocked, pair_good, sizes_good

MOST_FIGURES = 40


def floor_shown(floor):
    return "/".join(floor)


def rows_read(text):
    return tuple(text.split("/"))


def floor_read(text):
    if not isinstance(text, str):
        raise NoText(0)
    floor = rows_read(text)
    if not floor_good(floor):
        raise NoText(1)
    return floor


def number_written(text):
    if not 1 <= len(text) <= MOST_FIGURES or (text[0] == "0" and text != "0"):
        return False
    return all(["0" <= sign <= "9" for sign in text])


def number_shown(number):
    # Python writes no number of some thousand figures as a whole.
    parts = []
    while number >= 10 ** 64:
        parts.append(str(number % 10 ** 64).zfill(64))
        number = number // 10 ** 64
    parts.append(str(number))
    return "".join(parts[::-1])


def rule_shown(rule):
    high, wide, blocks = rule
    return "\n".join([f"rule {high} {wide}"] + [tile + " " + floor_shown(block) for tile, block in blocks])


def sizes_read(row):
    words = row.split(" ")
    if len(words) != 3 or words[0] != "rule" or not number_written(words[1]) or not number_written(words[2]):
        raise NoText(1)
    high = int(words[1])
    wide = int(words[2])
    if not sizes_good(high, wide):
        raise NoText(1)
    return (high, wide)


def pair_read(row):
    """What the row tells as a tile and its block, be they such or not; None where it has not two words."""
    words = row.split(" ")
    return (words[0], rows_read(words[1])) if len(words) == 2 else None


def rule_read(text):
    if not isinstance(text, str):
        raise NoText(0)
    rows = text.split("\n")
    high, wide = sizes_read(rows[0])
    pairs = []
    ahead = ""
    for number, row in enumerate(rows[1:], start=2):
        pair = pair_read(row)
        if not pair_good(high, wide, pair) or pair[0] <= ahead:
            raise NoText(number)
        ahead = pair[0]
        pairs.append(pair)
    if len(pairs) == 0:
        raise NoText(2)
    lacking = first_unblocked(pairs)
    if lacking is not None:
        raise NoText(lacking + 2)
    return (high, wide, tuple(pairs))
