"""The way back: of which lesser floors a floor comes, and papers that it never comes of a tile."""

from tilegrow.errors import TooGreat
from tilegrow.floors import cut_floor, floor_good
from tilegrow.pieces import block_parts, blocks_needed, fittings_of
from tilegrow.plain import whole_within
from tilegrow.rules import floors_rising, laid_floor, tiles_known

MOST_CUTTINGS = 300
MOST_FLOORS = 600
MOST_LENGTH = 8


def combined(starts, ends):
    found = []
    for start in starts:
        found.extend([start + end for end in ends])
    return found


def floors_fitting(fitting):
    """All floors that at each place have one of the tiles which fit there, rising."""
    floors = [()]
    for fits in fitting:
        texts = [""]
        for tiles in fits:
            texts = combined(texts, tiles)
        floors = combined(floors, [(text,) for text in texts])
    return floors


def many_fitting(fitting):
    many = 1
    for fits in fitting:
        for tiles in fits:
            many = many * len(tiles)
    return many


def many_cuttings(fittings):
    return sum([many_fitting(fitting) for i, j, fitting in fittings])


def cuttings_fitting(fittings):
    found = []
    for i, j, fitting in fittings:
        found.extend([(i, j, lesser) for lesser in floors_fitting(fitting)])
    return found


def cuttings_by(rule, parts, floor):
    fittings = fittings_of(rule, parts, floor)
    # They are counted first: laid out, they could be more than anything holds.
    many = many_cuttings(fittings)
    if many > MOST_CUTTINGS:
        raise TooGreat(many, MOST_CUTTINGS)
    return cuttings_fitting(fittings)


def cuttings(rule, floor):
    return cuttings_by(rule, block_parts(rule), floor)


def offsets_of(rule, floor):
    return sorted(set([(i, j) for i, j, lesser in cuttings(rule, floor)]))


def back_search(rule, floor):
    """A dict of the floors of back_list, in their order, each with the list of its cuttings."""
    parts = block_parts(rule)
    floors = [floor]
    known = {floor: True}
    cut_of = {}
    while len(cut_of) < len(floors):
        bigger = floors[len(cut_of)]
        cut_of[bigger] = cuttings_by(rule, parts, bigger)
        for i, j, lesser in cut_of[bigger]:
            if lesser not in known:
                if len(floors) == MOST_FLOORS:
                    raise TooGreat(MOST_FLOORS + 1, MOST_FLOORS)
                known[lesser] = True
                floors.append(lesser)
    return cut_of


def back_list(rule, floor):
    return list(back_search(rule, floor))


def cutting_holds(rule, floor, thing):
    if not isinstance(thing, tuple) or len(thing) != 3:
        return False
    high, wide, blocks = rule
    i, j, lesser = thing
    if not whole_within(i, 0, high - 1) or not whole_within(j, 0, wide - 1) or not floor_good(lesser):
        return False
    rows = len(floor)
    columns = len(floor[0])
    if len(lesser) != blocks_needed(i, rows, high) or len(lesser[0]) != blocks_needed(j, columns, wide):
        return False
    block_of = dict(blocks)
    return tiles_known(block_of, lesser) and cut_floor(laid_floor(block_of, high, lesser), i, j, rows, columns) == floor


def way_holds(rule, tile, floor, thing):
    if not isinstance(thing, tuple):
        return False
    bigger = floor
    for cutting in thing:
        if not cutting_holds(rule, bigger, cutting):
            return False
        bigger = cutting[2]
    return bigger == (tile,)


def way_of(rule, tile, floor):
    cut_of = back_search(rule, floor)
    if (tile,) not in cut_of:
        return None
    # The order of back_list is by how many cuttings are needed, so what comes to a floor first does so by the fewest.
    ahead_of = {}
    for bigger, found in cut_of.items():
        for cutting in found:
            ahead_of.setdefault(cutting[2], (bigger, cutting))
    way = []
    lesser = (tile,)
    while lesser != floor:
        lesser, cutting = ahead_of[lesser]
        way.append(cutting)
    return tuple(way[::-1])


def way_place(rule, way):
    row = 0
    column = 0
    for i, j, lesser in way[::-1]:
        row = row * rule[0] + i
        column = column * rule[1] + j
    return (len(way), row, column)


def ways_count(rule, tile, floor, growings):
    cut_of = back_search(rule, floor)
    number_of = dict([(bigger, number) for number, bigger in enumerate(cut_of)])
    lesser_of = [[number_of[lesser] for i, j, lesser in found] for found in cut_of.values()]
    # At first the floor itself alone is come to, in one way.
    many_of = [1] + [0] * (len(lesser_of) - 1)
    for growing in range(growings):
        back = [0] * len(lesser_of)
        for many, numbers in zip(many_of, lesser_of):
            if many > 0:
                for number in numbers:
                    back[number] = back[number] + many
        many_of = back
    return many_of[number_of[(tile,)]] if (tile,) in number_of else 0


def rows_never(rule, floor):
    return rule[0] == 1 and len(floor) > 1


def columns_never(rule, floor):
    return rule[1] == 1 and len(floor[0]) > 1


def closed_back(rule, floors):
    parts = block_parts(rule)
    listed = dict([(floor, True) for floor in floors])
    for floor in floors:
        fittings = fittings_of(rule, parts, floor)
        if many_cuttings(fittings) > MOST_CUTTINGS:
            return False
        if not all([lesser in listed for i, j, lesser in cuttings_fitting(fittings)]):
            return False
    return True


def back_never(rule, tile, floor, thing):
    if not isinstance(thing, tuple) or not floors_rising(dict(rule[2]), thing, MOST_LENGTH):
        return False
    return floor in thing and (tile,) not in thing and closed_back(rule, thing)


def never_holds(rule, tile, floor, thing):
    if not isinstance(thing, tuple):
        return False
    if thing == ("rows",):
        return rows_never(rule, floor)
    if thing == ("columns",):
        return columns_never(rule, floor)
    return len(thing) == 2 and thing[0] == "back" and back_never(rule, tile, floor, thing[1])


def never_of(rule, tile, floor):
    if rows_never(rule, floor):
        return ("rows",)
    if columns_never(rule, floor):
        return ("columns",)
    floors = back_list(rule, floor)
    return None if (tile,) in floors else ("back", tuple(sorted(floors)))
