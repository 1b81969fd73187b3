"""Floors, rules and odd things that several tests share."""

ALPHABET = "abcdefghijklmnopqrstuvwxyz"

# Every sign that a text handed in may have: from the blank to ~, but the percent sign.
SIGNS = [chr(code) for code in range(ord(" "), ord("~") + 1) if chr(code) != "%"]


def nested(make, depth):
    thing = make(None)
    for level in range(depth - 1):
        thing = make(thing)
    return thing


def odd_things():
    """Things of every kind that 0.3 names; none is a floor, a rule, a pair, a tile or a size."""
    return [
        None, True, False, 0, -1, 5, 65, 10 ** 100 - 1, -(10 ** 100 - 1),
        "", " ", "~", "A", "ab", "abab", "aa bb", "ab/ba", "a1", "".join(SIGNS), "a" * 65,
        [], (), {}, [None], (None,), {None: None}, [[]], ((),), {"a": {}}, ([],), ({},), [()],
        (1,), (1, 2), (1, 2, 3), (1, 2, 3, 4), [1, 2, []], ("",), ("", ""), ("A",), ("a", "bb"), ("a", None),
        ["a"], ["a", "b"], ["aa"], {"a": "b"}, {0: "ab"}, {"a": ("ab",)}, {(1, "a"): [True, {"z": ()}]},
        nested(lambda thing: [thing], 50),
        nested(lambda thing: (thing,), 50),
        nested(lambda thing: {"a": thing}, 50),
        nested(lambda thing: {1: [(thing,)]}, 16),
        nested(lambda thing: (thing, thing), 5),
        nested(lambda thing: ("a", thing), 50),
        nested(lambda thing: (1, 2, thing), 50),
    ]


def even_floor(high, wide, tile="a"):
    return (tile * wide,) * high


def even_rule(high, wide, tiles="a"):
    """Each tile's block is of this tile alone."""
    return (high, wide, tuple((tile, even_floor(high, wide, tile)) for tile in tiles))


def mixed_rule(high, wide, tiles, step):
    """A rule whose blocks have many tiles, at other places in each."""
    many = len(tiles)
    blocks = []
    for number, tile in enumerate(tiles):
        block = tuple(
            "".join(tiles[(number + step * row + row * row + 2 * column + step) % many] for column in range(wide))
            for row in range(high)
        )
        blocks.append((tile, block))
    return (high, wide, tuple(blocks))


SIZES = [(high, wide) for high in range(1, 5) for wide in range(1, 5) if (high, wide) != (1, 1)]

CHESS = (2, 2, (("a", ("ab", "ba")), ("b", ("cc", "ab")), ("c", ("ca", "bb"))))
STRIPE = (1, 2, (("a", ("ab",)), ("b", ("ba",)), ("c", ("cc",))))
TOWER = (3, 1, (("a", ("a", "b", "c")), ("b", ("c", "c", "a")), ("c", ("b", "a", "a"))))
FLAT = (2, 3, (("a", ("abc", "bca")), ("b", ("aab", "ccb")), ("c", ("cba", "aac"))))
RULES = [CHESS, STRIPE, TOWER, FLAT] + [mixed_rule(high, wide, "abc", high + wide) for high, wide in SIZES]

FLOORS = [
    ("a",), ("b",), ("c",),
    ("ab",), ("a", "b"), ("abc",), ("c", "a", "b"),
    ("ab", "ca"), ("abc", "cca"), ("ab", "bb", "ca"), ("abca", "bcab", "ccba", "acbb"),
    ("abcabcabcabcabca",), tuple("abcabcabcabcabca"),
]


def grown_by_hand(rule, floor):
    """1.4 word by word: the tile at (row, column) lays its block from (high * row, wide * column) on."""
    high, wide, blocks = rule
    laid = {}
    for row, tiles in enumerate(floor):
        for column, tile in enumerate(tiles):
            for own, block in blocks:
                if own == tile:
                    for down in range(high):
                        for right in range(wide):
                            laid[(high * row + down, wide * column + right)] = block[down][right]
    return tuple(
        "".join(laid[(row, column)] for column in range(wide * len(floor[0])))
        for row in range(high * len(floor))
    )
