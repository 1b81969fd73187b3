"""Far floors: what stands in the floor of one tile, grown often, without laying it."""

from tilegrow.errors import NoNumber, NoPlace
from tilegrow.floors import cut_floor
from tilegrow.plain import whole_within
from tilegrow.rules import grown_size, laid_floor, refuse_no_tile

MOST_GROWINGS = 60


def refuse_growings(growings):
    if not whole_within(growings, 0, MOST_GROWINGS):
        raise NoNumber()


def refuse_place(rule, growings, row, column):
    if not whole_within(row, 0, grown_size(1, rule[0], growings) - 1):
        raise NoPlace()
    if not whole_within(column, 0, grown_size(1, rule[1], growings) - 1):
        raise NoPlace()


def digits_far(rule, growings, row, column):
    refuse_growings(growings)
    refuse_place(rule, growings, row, column)
    high, wide, blocks = rule
    digits = []
    for growing in range(growings):
        digits.append((row % high, column % wide))
        row = row // high
        column = column // wide
    return digits[::-1]


def line_far(rule, tile, growings, row, column):
    refuse_no_tile(rule, tile)
    block_of = dict(rule[2])
    line = [tile]
    for i, j in digits_far(rule, growings, row, column):
        line.append(block_of[line[-1]][i][j])
    return line


def tile_far(rule, tile, growings, row, column):
    return line_far(rule, tile, growings, row, column)[-1]


def cut_far(rule, tile, growings, row, column, high, wide):
    refuse_no_tile(rule, tile)
    refuse_growings(growings)
    refuse_place(rule, growings, row, column)
    tall = grown_size(1, rule[0], growings)
    broad = grown_size(1, rule[1], growings)
    if row + high > tall or column + wide > broad:
        raise NoPlace()
    return laid_cut(rule, tile, growings, (row, column, high, wide))


def laid_cut(rule, tile, growings, cut):
    row, column, high, wide = cut
    block_of = dict(rule[2])
    tall = grown_size(1, rule[0], growings)
    broad = grown_size(1, rule[1], growings)
    # Of each floor ahead only those tiles are kept of which a part of the cut comes.
    kept = (tile,)
    top = 0
    left = 0
    for growing in range(growings):
        tall = tall // rule[0]
        broad = broad // rule[1]
        first = row // tall
        start = column // broad
        rows = (row + high - 1) // tall - first + 1
        columns = (column + wide - 1) // broad - start + 1
        grown = laid_floor(block_of, rule[0], kept)
        kept = cut_floor(grown, first - top * rule[0], start - left * rule[1], rows, columns)
        top = first
        left = start
    return kept


def digit_good(rule, thing):
    if not isinstance(thing, tuple) or len(thing) != 2:
        return False
    return whole_within(thing[0], 0, rule[0] - 1) and whole_within(thing[1], 0, rule[1] - 1)


def digits_good(rule, thing):
    return isinstance(thing, list) and all([digit_good(rule, digit) for digit in thing])


def place_far(rule, digits):
    if not digits_good(rule, digits) or len(digits) > MOST_GROWINGS:
        raise NoPlace()
    row = 0
    column = 0
    for i, j in digits:
        row = row * rule[0] + i
        column = column * rule[1] + j
    return (row, column)


def tiles_good(block_of, thing):
    if not isinstance(thing, list):
        return False
    return all([isinstance(tile, str) and tile in block_of for tile in thing])


def line_holds(rule, thing):
    if not isinstance(thing, tuple) or len(thing) != 2:
        return False
    tiles, digits = thing
    block_of = dict(rule[2])
    if not tiles_good(block_of, tiles) or not digits_good(rule, digits) or len(digits) != len(tiles) - 1:
        return False
    for number, digit in enumerate(digits):
        if block_of[tiles[number]][digit[0]][digit[1]] != tiles[number + 1]:
            return False
    return True


def first_far(rule, tile, growings, other):
    refuse_no_tile(rule, tile)
    refuse_growings(growings)
    refuse_no_tile(rule, other)
    place_of = {other: (0, 0)}
    tall = 1
    broad = 1
    for growing in range(growings):
        place_of = grown_places(rule, place_of, tall, broad)
        tall = tall * rule[0]
        broad = broad * rule[1]
    return place_of.get(tile)


def grown_places(rule, place_of, tall, broad):
    """Of each tile the first place, one growing on; the floors of its block's tiles have tall rows of broad tiles."""
    grown = {}
    for tile, block in rule[2]:
        places = []
        for i, tiles in enumerate(block):
            for j, part in enumerate(tiles):
                if part in place_of:
                    row, column = place_of[part]
                    places.append((i * tall + row, j * broad + column))
        if len(places) > 0:
            grown[tile] = min(places)
    return grown
