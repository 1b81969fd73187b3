"""Pieces: where they stand in floors, and how often in floors that nobody lays."""

from tilegrow.errors import NoFloor
from tilegrow.floors import cut_floor, floor_within
from tilegrow.rules import laid_floor, refuse_no_tile, rule_tiles

MOST_SIDE = 3
MOST_CROSSED = 2


def places_in(piece, floor):
    rows = len(piece)
    columns = len(piece[0])
    places = []
    for row in range(len(floor) - rows + 1):
        for column in range(len(floor[0]) - columns + 1):
            if cut_floor(floor, row, column, rows, columns) == piece:
                places.append((row, column))
    return places


def times_in(piece, floor):
    return len(places_in(piece, floor))


def blocks_needed(offset, size, factor):
    """How many blocks, each of factor tiles, are touched by size tiles that begin at the offset of the first one."""
    return (offset + size - 1) // factor + 1


def sprout_plan(rule, shapes):
    """By rows and columns of a floor: which cuts of it, grown, touch the blocks of all its tiles."""
    high, wide, blocks = rule
    plan = {}
    for rows, columns in shapes:
        for i in range(high):
            for j in range(wide):
                touched = (blocks_needed(i, rows, high), blocks_needed(j, columns, wide))
                plan.setdefault(touched, []).append((i, j, rows, columns))
    return plan


def sprouts(block_of, high, plan, piece):
    """The pieces in the grown piece by the plan, each as a tuple (i, j, piece) with its place."""
    cuts = plan.get((len(piece), len(piece[0])), [])
    if len(cuts) == 0:
        return []
    grown = laid_floor(block_of, high, piece)
    return [(i, j, cut_floor(grown, i, j, rows, columns)) for i, j, rows, columns in cuts]


def children_kept(children, block_of, high, plan, piece):
    """The pieces of the sprouts, kept in the dict of children, as growing after growing asks for them."""
    if piece not in children:
        children[piece] = [child for i, j, child in sprouts(block_of, high, plan, piece)]
    return children[piece]


def shapes_within(rows, columns):
    shapes = []
    for row in range(rows):
        shapes.extend([(row + 1, column + 1) for column in range(columns)])
    return shapes


def pair_steps(rule, edge):
    """Of each two tiles side by side the two that meet where their blocks do, in the row that the edge tells."""
    block_of = dict(rule[2])
    tiles = rule_tiles(rule)
    steps = {}
    for left in tiles:
        for right in tiles:
            steps[left + right] = block_of[left][edge][-1] + block_of[right][edge][0]
    return steps


def pair_tables(rule, edge, growings):
    """At index k a dict: of each two tiles those that pair_steps tells, k growings on."""
    steps = pair_steps(rule, edge)
    table = dict([(pair, pair) for pair in steps])
    tables = [table]
    for growing in range(growings - 1):
        table = dict([(pair, steps[far]) for pair, far in table.items()])
        tables.append(table)
    return tables


def line_counts(rule, tile, growings, shapes):
    """At index k, how often pieces of these shapes stand in the floor after k growings: dicts."""
    block_of = dict(rule[2])
    plan = sprout_plan(rule, shapes)
    children = {}
    many_of = {(tile,): 1}
    counts = [many_of]
    for growing in range(growings):
        grown = {}
        for piece, many in many_of.items():
            for child in children_kept(children, block_of, rule[0], plan, piece):
                grown[child] = grown.get(child, 0) + many
        many_of = grown
        counts.append(many_of)
    return counts


def square_counts(rule, counts):
    """How often pieces of two rows and columns stand in the last floor, by the counts of all lesser ones ahead.

    One that stands where four blocks meet comes of such a one ahead, at whose middle it stands; so each goes back
    to one that stood in one or two blocks, and is counted from there, without counting all at each growing.
    """
    block_of = dict(rule[2])
    plan = sprout_plan(rule, [(2, 2)])
    growings = len(counts) - 1
    tops = pair_tables(rule, -1, growings)
    bottoms = pair_tables(rule, 0, growings)
    children = {}
    squares = {}
    for number in range(growings):
        top_of = tops[growings - 1 - number]
        bottom_of = bottoms[growings - 1 - number]
        for piece, many in counts[number].items():
            for top, bottom in children_kept(children, block_of, rule[0], plan, piece):
                square = (top_of[top], bottom_of[bottom])
                squares[square] = squares.get(square, 0) + many
    return squares


def crossing_counts(rule, tile, growings, rows, columns):
    """How often pieces of at most so many rows and columns, one or two, stand in the floor: a dict."""
    shapes = [shape for shape in shapes_within(rows, columns) if shape != (2, 2)]
    counts = line_counts(rule, tile, growings, shapes)
    many_of = dict(counts[-1])
    if rows == 2 and columns == 2:
        many_of.update(square_counts(rule, counts))
    return many_of


def crossings(rule, tile, growings):
    refuse_no_tile(rule, tile)
    return sorted(crossing_counts(rule, tile, growings, MOST_CROSSED, MOST_CROSSED).items())


def block_parts(rule):
    """By (row, column, part) the tiles, rising, in whose blocks the part stands at this place: a dict of texts."""
    high, wide, blocks = rule
    parts = {}
    for tile, block in blocks:
        for row in range(high):
            for column in range(wide):
                for rows, columns in shapes_within(high - row, wide - column):
                    key = (row, column, cut_floor(block, row, column, rows, columns))
                    parts[key] = parts.get(key, "") + tile
    return parts


def fitting_tiles(rule, parts, floor, i, j):
    """For a floor that stands in a grown one from (i, j) on: for each tile of that one, row by row, what it may be."""
    high, wide, blocks = rule
    fitting = []
    for down in range(blocks_needed(i, len(floor), high)):
        top = max(down * high - i, 0)
        bottom = down * high - i + high
        fits = []
        for right in range(blocks_needed(j, len(floor[0]), wide)):
            left = max(right * wide - j, 0)
            part = cut_floor(floor, top, left, bottom - top, right * wide - j + wide - left)
            fits.append(parts.get((top - down * high + i, left - right * wide + j, part), ""))
        fitting.append(fits)
    return fitting


def fittings_of(rule, parts, floor):
    """All tuples (i, j, fitting) of the floor where at each place some tile fits."""
    found = []
    for i in range(rule[0]):
        for j in range(rule[1]):
            fitting = fitting_tiles(rule, parts, floor, i, j)
            if all([all([tiles != "" for tiles in fits]) for fits in fitting]):
                found.append((i, j, fitting))
    return found


def piece_fits(fitting, piece):
    """Whether the piece is one of those that the fitting tells."""
    if len(piece) != len(fitting) or len(piece[0]) != len(fitting[0]):
        return False
    for tiles, fits in zip(piece, fitting):
        for tile, allowed in zip(tiles, fits):
            if tile not in allowed:
                return False
    return True


def times_far(rule, tile, growings, piece):
    refuse_no_tile(rule, tile)
    if not floor_within(piece, MOST_SIDE):
        raise NoFloor()
    if growings == 0:
        return times_in(piece, (tile,))
    fittings = fittings_of(rule, block_parts(rule), piece)
    if len(fittings) == 0:
        return 0
    rows = min(len(piece), MOST_CROSSED)
    columns = min(len(piece[0]), MOST_CROSSED)
    many_of = crossing_counts(rule, tile, growings - 1, rows, columns)
    times = 0
    for i, j, fitting in fittings:
        times = times + sum([many for lesser, many in many_of.items() if piece_fits(fitting, lesser)])
    return times
