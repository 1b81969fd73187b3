"""How many of each tile there are in floors, be these ever so great."""

from tilegrow.errors import NoPlace
from tilegrow.plain import whole_within
from tilegrow.rules import grown_size, refuse_no_tile, rule_tiles


def table_of(rule):
    tiles = rule_tiles(rule)
    return tuple([tuple(["".join(block).count(tile) for tile in tiles]) for own, block in rule[2]])


def table_times(table, other):
    size = len(table)
    columns = [[row[number] for row in other] for number in range(size)]
    product = []
    for row in table:
        product.append(tuple([sum([one * two for one, two in zip(row, column)]) for column in columns]))
    return tuple(product)


def table_power(rule, growings):
    size = len(rule[2])
    power = tuple([tuple([1 if row == column else 0 for column in range(size)]) for row in range(size)])
    square = table_of(rule)
    left = growings
    while left > 0:
        if left % 2 == 1:
            power = table_times(power, square)
        left = left // 2
        if left > 0:
            square = table_times(square, square)
    return power


def counts_listed(rule, many_of):
    return [(tile, many_of.get(tile, 0)) for tile in rule_tiles(rule)]


def parts_of_blocks(rule):
    """Of each tile those that stand in its block, with how many of them."""
    parts_of = {}
    for tile, block in rule[2]:
        text = "".join(block)
        parts_of[tile] = [(part, text.count(part)) for part in sorted(set(text))]
    return parts_of


def tile_counts(rule, tile, growings):
    refuse_no_tile(rule, tile)
    parts_of = parts_of_blocks(rule)
    many_of = {tile: 1}
    for growing in range(growings):
        grown = {}
        for ahead, many in many_of.items():
            for part, often in parts_of[ahead]:
                grown[part] = grown.get(part, 0) + many * often
        many_of = grown
    return counts_listed(rule, many_of)


def counts_within(rule, tile, growings, rows, columns):
    refuse_no_tile(rule, tile)
    tall = grown_size(1, rule[0], growings)
    broad = grown_size(1, rule[1], growings)
    if not whole_within(rows, 0, tall) or not whole_within(columns, 0, broad):
        raise NoPlace()
    block_of = dict(rule[2])
    # A key tells whether all rows of the tile's own floor are counted, whether all columns are, and the tile.
    held = {(rows == tall, columns == broad, tile): 1}
    for growing in range(growings):
        tall = tall // rule[0]
        broad = broad // rule[1]
        held = held_grown(block_of, held, rows // tall % rule[0], columns // broad % rule[1])
    return counts_listed(rule, dict([(key[2], many) for key, many in held.items() if key[0] and key[1]]))


def held_grown(block_of, held, down, right):
    """Where not all is counted, the border goes through row down, or column right, of the block."""
    grown = {}
    for key, many in held.items():
        all_rows, all_columns, tile = key
        for i, tiles in enumerate(block_of[tile]):
            for j, part in enumerate(tiles):
                if (all_rows or i <= down) and (all_columns or j <= right):
                    place = (all_rows or i < down, all_columns or j < right, part)
                    grown[place] = grown.get(place, 0) + many
    return grown
