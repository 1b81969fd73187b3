"""Floors without end: what lies in them, and whether two painted ones are alike."""

from tilegrow.coming import next_wave
from tilegrow.errors import NoPlace, NoTile, Unlike
from tilegrow.families import reached, still_tiles
from tilegrow.far import laid_cut
from tilegrow.plain import tile_good, whole_within
from tilegrow.rules import grown_often, grown_size, rule_tiles


def refuse_not_still(rule, thing):
    if thing not in still_tiles(rule):
        raise NoTile(thing)


def line_good(factor, thing):
    """Whether the thing tells a row, or a column, of a still floor whose rows, or columns, grow by this factor."""
    # By a factor of 1 they never grow more than one.
    return whole_within(thing, 0, 0 if factor == 1 else 10 ** 40 - 1)


def growings_for(rule, rows, columns):
    """After how many growings a floor has so many rows and columns."""
    growings = 0
    tall = 1
    broad = 1
    while tall < rows or broad < columns:
        tall = tall * rule[0]
        broad = broad * rule[1]
        growings = growings + 1
    return growings


def still_cut(rule, tile, row, column, high, wide):
    refuse_not_still(rule, tile)
    if not line_good(rule[0], row) or not line_good(rule[1], column):
        raise NoPlace()
    if (rule[0] == 1 and high > 1) or (rule[1] == 1 and wide > 1):
        raise NoPlace()
    return laid_cut(rule, tile, growings_for(rule, row + high, column + wide), (row, column, high, wide))


def still_at(rule, tile, row, column):
    return still_cut(rule, tile, row, column, 1, 1)[0]


def paint_good(rule, thing):
    tiles = rule_tiles(rule)
    if not isinstance(thing, tuple) or len(thing) != len(tiles):
        return False
    for tile, pair in zip(tiles, thing):
        if not isinstance(pair, tuple) or len(pair) != 2 or pair[0] != tile or not tile_good(pair[1]):
            return False
    return True


def sign_at(painted, row, column):
    rule, tile, paint = painted
    return dict(paint)[still_at(rule, tile, row, column)]


def grown_sizes(rule, often):
    return (grown_size(1, rule[0], often), grown_size(1, rule[1], often))


def common_power(rule, other):
    for power in (1, 2):
        for other_power in (1, 2):
            if grown_sizes(rule, power) == grown_sizes(other, other_power):
                return (power, other_power)
    return None


def floor_texts(rule, often):
    """Of each tile the tiles of its floor after so many growings, row by row: a dict of texts."""
    return dict([(tile, "".join(grown_often(rule, (tile,), often))) for tile in rule_tiles(rule)])


def common_texts(painted, other):
    """Of both rules the texts of the blocks of the common size."""
    power = common_power(painted[0], other[0])
    if power is None:
        raise Unlike()
    return (floor_texts(painted[0], power[0]), floor_texts(other[0], power[1]))


def pairs_under(texts, pair):
    """The pairs of tiles that lie at one place of both blocks, row by row."""
    return list(zip(texts[0][pair[0]], texts[1][pair[1]]))


def unlike_among(painted, other, pairs):
    sign_of = dict(painted[2])
    other_sign = dict(other[2])
    return [pair for pair in pairs if sign_of[pair[0]] != other_sign[pair[1]]]


def first_unlike(painted, other):
    texts = common_texts(painted, other)
    high, wide = grown_sizes(painted[0], common_power(painted[0], other[0])[0])
    first = (painted[1], other[1])
    wave = {first: (0, 0)}
    seen = {first: True}

    def parts_of(pair):
        return [(place // wide, place % wide, part) for place, part in enumerate(pairs_under(texts, pair))]

    while len(wave) > 0:
        unlike = unlike_among(painted, other, list(wave))
        if len(unlike) > 0:
            return min([wave[pair] for pair in unlike])
        wave = next_wave(high, wide, parts_of, wave, seen)
    return None


def alike_of(painted, other):
    texts = common_texts(painted, other)
    pairs = reached((painted[1], other[1]), lambda pair: pairs_under(texts, pair))
    if len(unlike_among(painted, other, pairs)) > 0:
        return None
    return tuple(sorted(pairs))


def pairs_rising(texts, thing):
    """Whether the thing is a tuple of pairs of a tile of the one rule and one of the other, each above the last."""
    if not isinstance(thing, tuple):
        return False
    ahead = ()
    for pair in thing:
        if not isinstance(pair, tuple) or len(pair) != 2:
            return False
        if not tile_good(pair[0]) or not tile_good(pair[1]) or pair <= ahead:
            return False
        if pair[0] not in texts[0] or pair[1] not in texts[1]:
            return False
        ahead = pair
    return True


def alike_holds(painted, other, thing):
    texts = common_texts(painted, other)
    if not pairs_rising(texts, thing) or (painted[1], other[1]) not in thing:
        return False
    if len(unlike_among(painted, other, thing)) > 0:
        return False
    listed = dict([(pair, True) for pair in thing])
    for pair in thing:
        if not all([part in listed for part in pairs_under(texts, pair)]):
            return False
    return True
