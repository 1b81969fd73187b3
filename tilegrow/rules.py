"""Rules, and floors that are grown by them."""

from tilegrow.errors import NoRule, NoTile, TooGreat
from tilegrow.floors import MOST_TILES, floor_good, floor_within, mirrored_floor, turned_floor
from tilegrow.plain import tile_good, whole_within

MOST_SIZE = 4


def sizes_good(high, wide):
    if not whole_within(high, 1, MOST_SIZE) or not whole_within(wide, 1, MOST_SIZE):
        return False
    return high > 1 or wide > 1


def pair_good(high, wide, thing):
    if not isinstance(thing, tuple) or len(thing) != 2:
        return False
    tile, block = thing
    if not tile_good(tile) or not floor_good(block):
        return False
    return len(block) == high and len(block[0]) == wide


def first_unblocked(pairs):
    block_of = dict(pairs)
    for place, pair in enumerate(pairs):
        for tile in "".join(pair[1]):
            if tile not in block_of:
                return place
    return None


def rule_good(thing):
    if not isinstance(thing, tuple) or len(thing) != 3:
        return False
    high, wide, blocks = thing
    if not sizes_good(high, wide) or not isinstance(blocks, tuple) or len(blocks) == 0:
        return False
    # Tiles that rise are at most 26, so their number needs no look of its own.
    ahead = ""
    for pair in blocks:
        if not pair_good(high, wide, pair) or pair[0] <= ahead:
            return False
        ahead = pair[0]
    return first_unblocked(blocks) is None


def rule_of(high, wide, things):
    if not sizes_good(high, wide):
        raise NoRule(-1)
    seen = {}
    for place, thing in enumerate(things):
        if not pair_good(high, wide, thing) or thing[0] in seen:
            raise NoRule(place)
        seen[thing[0]] = True
    if len(things) == 0:
        raise NoRule(0)
    lacking = first_unblocked(things)
    if lacking is not None:
        raise NoRule(lacking)
    return (high, wide, tuple(sorted(things)))


def refuse_no_tile(rule, thing):
    if not isinstance(thing, str) or thing not in dict(rule[2]):
        raise NoTile(thing)


def tiles_known(block_of, floor):
    return all([tile in block_of for tile in "".join(floor)])


def floors_rising(block_of, things, most):
    """Whether all things are floors of the rule's tiles, of at most so many rows and columns, each above the last."""
    ahead = ()
    for thing in things:
        if not floor_within(thing, most) or not tiles_known(block_of, thing) or thing <= ahead:
            return False
        ahead = thing
    return True


def refuse_strange(block_of, floor):
    for tile in "".join(floor):
        if tile not in block_of:
            raise NoTile(tile)


def refuse_beyond(rows, columns, most):
    if rows > most:
        raise TooGreat(rows, most)
    if columns > most:
        raise TooGreat(columns, most)


def grown_size(size, factor, often):
    for growing in range(often):
        size = size * factor
    return size


def laid_floor(block_of, high, floor):
    rows = []
    for row in floor:
        for line in range(high):
            rows.append("".join([block_of[tile][line] for tile in row]))
    return tuple(rows)


def grown_often(rule, floor, often):
    high, wide, blocks = rule
    block_of = dict(blocks)
    refuse_strange(block_of, floor)
    # The sizes are told of the last floor, so they are refused before any is laid.
    refuse_beyond(grown_size(len(floor), high, often), grown_size(len(floor[0]), wide, often), MOST_TILES)
    grown = floor
    for growing in range(often):
        grown = laid_floor(block_of, high, grown)
    return grown


def grown_floor(rule, floor):
    return grown_often(rule, floor, 1)


def turned_rule(rule):
    high, wide, blocks = rule
    return (wide, high, tuple([(tile, turned_floor(block)) for tile, block in blocks]))


def mirrored_rule(rule):
    high, wide, blocks = rule
    return (high, wide, tuple([(tile, mirrored_floor(block)) for tile, block in blocks]))


def rule_tiles(rule):
    return [tile for tile, block in rule[2]]


def joined_rule(rule, other):
    lone = sorted(set(rule_tiles(rule)) ^ set(rule_tiles(other)))
    if len(lone) > 0:
        raise NoTile(lone[0])
    high = rule[0] * other[0]
    wide = rule[1] * other[1]
    refuse_beyond(high, wide, MOST_SIZE)
    return (high, wide, tuple([(tile, grown_floor(other, block)) for tile, block in rule[2]]))
