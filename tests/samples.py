"""Floors, rules, odd things and ways of asking that several tests share."""

import copy
import random
import unittest

from tilegrow.errors import FloorError, NoTile, TooGreat

ALPHABET = "abcdefghijklmnopqrstuvwxyz"

# Every sign that a text handed in may have: from the blank to ~, but the percent sign.
SIGNS = [chr(code) for code in range(ord(" "), ord("~") + 1) if chr(code) != "%"]


def nested(make, depth):
    thing = make(None)
    for level in range(depth - 1):
        thing = make(thing)
    return thing


def odd_things():
    """Things of every kind that 0.3 names; none is a floor, a rule, a pair, a tile or a size."""
    return [
        None, True, False, 0, -1, 5, 65, 10 ** 100 - 1, -(10 ** 100 - 1),
        "", " ", "~", "A", "ab", "abab", "aa bb", "ab/ba", "a1", "".join(SIGNS), "a" * 65,
        [], (), {}, [None], (None,), {None: None}, [[]], ((),), {"a": {}}, ([],), ({},), [()],
        (1,), (1, 2), (1, 2, 3), (1, 2, 3, 4), [1, 2, []], ("",), ("", ""), ("A",), ("a", "bb"), ("a", None),
        ["a"], ["a", "b"], ["aa"], {"a": "b"}, {0: "ab"}, {"a": ("ab",)}, {(1, "a"): [True, {"z": ()}]},
        nested(lambda thing: [thing], 50),
        nested(lambda thing: (thing,), 50),
        nested(lambda thing: {"a": thing}, 50),
        nested(lambda thing: {1: [(thing,)]}, 16),
        nested(lambda thing: (thing, thing), 5),
        nested(lambda thing: ("a", thing), 50),
        nested(lambda thing: (1, 2, thing), 50),
    ]


def even_floor(high, wide, tile="a"):
    return (tile * wide,) * high


def even_rule(high, wide, tiles="a"):
    """Each tile's block is of this tile alone."""
    return (high, wide, tuple((tile, even_floor(high, wide, tile)) for tile in tiles))


def mixed_rule(high, wide, tiles, step):
    """A rule whose blocks have many tiles, at other places in each."""
    many = len(tiles)
    blocks = []
    for number, tile in enumerate(tiles):
        block = tuple(
            "".join(tiles[(number + step * row + row * row + 2 * column + step) % many] for column in range(wide))
            for row in range(high)
        )
        blocks.append((tile, block))
    return (high, wide, tuple(blocks))


SIZES = [(high, wide) for high in range(1, 5) for wide in range(1, 5) if (high, wide) != (1, 1)]

CHESS = (2, 2, (("a", ("ab", "ba")), ("b", ("cc", "ab")), ("c", ("ca", "bb"))))
STRIPE = (1, 2, (("a", ("ab",)), ("b", ("ba",)), ("c", ("cc",))))
TOWER = (3, 1, (("a", ("a", "b", "c")), ("b", ("c", "c", "a")), ("c", ("b", "a", "a"))))
FLAT = (2, 3, (("a", ("abc", "bca")), ("b", ("aab", "ccb")), ("c", ("cba", "aac"))))
RULES = [CHESS, STRIPE, TOWER, FLAT] + [mixed_rule(high, wide, "abc", high + wide) for high, wide in SIZES]

FLOORS = [
    ("a",), ("b",), ("c",),
    ("ab",), ("a", "b"), ("abc",), ("c", "a", "b"),
    ("ab", "ca"), ("abc", "cca"), ("ab", "bb", "ca"), ("abca", "bcab", "ccba", "acbb"),
    ("abcabcabcabcabca",), tuple("abcabcabcabcabca"),
]


def grown_by_hand(rule, floor):
    """1.4 word by word: the tile at (row, column) lays its block from (high * row, wide * column) on."""
    high, wide, blocks = rule
    laid = {}
    for row, tiles in enumerate(floor):
        for column, tile in enumerate(tiles):
            for own, block in blocks:
                if own == tile:
                    for down in range(high):
                        for right in range(wide):
                            laid[(high * row + down, wide * column + right)] = block[down][right]
    return tuple(
        "".join(laid[(row, column)] for column in range(wide * len(floor[0])))
        for row in range(high * len(floor))
    )


def laid_far(rule, tile, growings):
    """The floor of the tile, laid tile by tile, be it greater than a floor may be or not."""
    floor = (tile,)
    for growing in range(growings):
        floor = grown_by_hand(rule, floor)
    return floor


def cut_by_hand(floor, row, column, rows, columns):
    return tuple(tiles[column:column + columns] for tiles in floor[row:row + rows])


def pieces_by_hand(floor, rows, columns):
    """Each piece of this shape with the list of the places at which it stands, rising."""
    found = {}
    for row in range(len(floor) - rows + 1):
        for column in range(len(floor[0]) - columns + 1):
            found.setdefault(cut_by_hand(floor, row, column, rows, columns), []).append((row, column))
    return found


def tangled_rule(high, wide, tiles, seed):
    """A rule whose blocks have no order in them; the same one for the same seed."""
    source = random.Random(seed)
    return (high, wide, tuple(
        (tile, tuple("".join(source.choice(tiles) for column in range(wide)) for row in range(high)))
        for tile in tiles
    ))


# Shapes of rules that the tests need often: tiles that never come, several shut groups, tiles that take turns.
LONELY = (2, 2, (("a", ("ab", "bb")), ("b", ("bb", "bb")), ("c", ("ca", "ab"))))
PARTED = (2, 1, (("a", ("a", "b")), ("b", ("b", "a")), ("k", ("m", "k")), ("m", ("k", "k")), ("z", ("a", "k"))))
TURNS = (1, 3, (("a", ("bbb",)), ("b", ("ccc",)), ("c", ("aaa",))))
TANGLED = [
    tangled_rule(high, wide, ALPHABET[:many], 100 * high + 10 * wide + many)
    for high, wide in SIZES for many in (1, 2, 4, 5)
]
MANY_RULES = RULES + [LONELY, PARTED, TURNS] + TANGLED

# The greatest rules that there are: 26 tiles with blocks of 4 rows of 4 tiles.
GREAT_RULES = [mixed_rule(4, 4, ALPHABET, 5), tangled_rule(4, 4, ALPHABET, 1)]


def tiles_of(rule):
    return [tile for tile, block in rule[2]]


def paint_of(rule, signs):
    """The paint whose signs are these, in turn, over and over."""
    return tuple((tile, signs[number % len(signs)]) for number, tile in enumerate(tiles_of(rule)))


def own_paint(rule):
    """The paint by which each tile has its own letter."""
    return tuple((tile, tile) for tile in tiles_of(rule))


def stills_of(rule):
    return [tile for tile, block in rule[2] if block[0][0] == tile]


def signs_laid(painted, growings):
    """The signs of the floor of the tile after so many growings, laid as a whole."""
    rule, tile, paint = painted
    sign_of = dict(paint)
    return tuple("".join(sign_of[own] for own in row) for row in laid_far(rule, tile, growings))


def tile_by_hand(rule, tile, row, column):
    """8.1 by the digits of the place: the tile of the still floor."""
    digits = []
    while row > 0 or column > 0:
        digits.append((row % rule[0], column % rule[1]))
        row, column = row // rule[0], column // rule[1]
    for i, j in reversed(digits):
        tile = dict(rule[2])[tile][i][j]
    return tile


def still_rule(high, wide, tiles, seed):
    """A rule whose blocks have no order in them but for the first tile of each, which is the block's own."""
    high, wide, blocks = tangled_rule(high, wide, tiles, seed)
    return (high, wide, tuple((tile, (tile + block[0][1:],) + block[1:]) for tile, block in blocks))


def renamed(painted, names):
    """The painted floor whose tiles have other names: a dict."""
    rule, tile, paint = painted
    blocks = tuple(sorted(
        (names[own], tuple("".join(names[part] for part in row) for row in block)) for own, block in rule[2]
    ))
    return ((rule[0], rule[1], blocks), names[tile], tuple(sorted((names[own], sign) for own, sign in paint)))


def laid_sizes(rule, most):
    """The numbers of growings after which the floor of a tile has at most so many tiles."""
    found = []
    growings = 0
    while (rule[0] * rule[1]) ** growings <= most:
        found.append(growings)
        growings += 1
    return found


def odd_numbers(least, most):
    """Odd things, and whole numbers, that are no whole number from least to most."""
    things = odd_things() + [least - 1, most + 1, least - 10 ** 99, most + 10 ** 90, str(least), (least,), [most]]
    return [
        thing for thing in things
        if not isinstance(thing, int) or isinstance(thing, bool) or not least <= thing <= most
    ]


def spoil(thing):
    """Changes a list or dict that was told, as its asker may."""
    if isinstance(thing, list):
        thing.reverse()
        thing.append("spoiled")
    elif isinstance(thing, dict):
        thing["spoiled"] = True
    elif isinstance(thing, tuple):
        for part in thing:
            spoil(part)


class Asker(unittest.TestCase):
    """Asks as 0.2 and 0.4 tell: nothing is changed, and the same question has the same answer."""

    def told(self, asked, *handed):
        before = copy.deepcopy(handed)
        first = asked(*handed)
        kept = copy.deepcopy(first)
        self.assertEqual(handed, before)
        spoil(first)
        self.assertEqual(handed, before)
        again = asked(*handed)
        self.assertEqual(again, kept)
        self.assertIs(again.__class__, kept.__class__)
        return again

    def refused(self, kind, asked, *handed):
        before = copy.deepcopy(handed)
        for time in range(2):
            with self.assertRaises(FloorError) as met:
                asked(*handed)
            self.assertIs(met.exception.__class__, kind, handed)
            self.assertEqual(handed, before)
        return met.exception

    def no_tile(self, tile, asked, *handed):
        error = self.refused(NoTile, asked, *handed)
        self.assertEqual(error.tile, tile)
        self.assertIs(error.tile.__class__, tile.__class__)

    def too_great(self, many, most, asked, *handed):
        error = self.refused(TooGreat, asked, *handed)
        self.assertEqual((error.many, error.most), (many, most))

    def yes(self, asked, *handed):
        self.assertIs(self.told(asked, *handed), True, handed)

    def no(self, asked, *handed):
        self.assertIs(self.told(asked, *handed), False, handed)
