"""Tiles among themselves: which come of which, when all do, and what lies at the corners."""

from tilegrow.plain import common_divisor, whole_from, whole_within
from tilegrow.rules import refuse_no_tile, rule_tiles


def walked(first, step):
    """The list of what is come to step by step, each once, and the number of the one that then comes again."""
    number_of = {}
    here = first
    while here not in number_of:
        number_of[here] = len(number_of)
        here = step(here)
    return (list(number_of), number_of[here])


def reached(first, step):
    """The list of what is come to from the first one, each once: one by one what step tells of it, in order."""
    found = [first]
    seen = {first: True}
    number = 0
    while number < len(found):
        here = found[number]
        for part in step(here):
            if part not in seen:
                seen[part] = True
                found.append(part)
        number = number + 1
    return found


def tiles_grown(text_of, tiles):
    return "".join(sorted(set("".join([text_of[tile] for tile in tiles]))))


def tile_sets(rule, tile):
    """What walked tells of the tiles that the tile's floors have: each a text, its letters rising."""
    text_of = dict([(own, tiles_grown({own: "".join(block)}, own)) for own, block in rule[2]])
    return walked(tile, lambda tiles: tiles_grown(text_of, tiles))


def comes_after(rule, tile):
    refuse_no_tile(rule, tile)
    sets, start = tile_sets(rule, tile)
    often_of = {}
    for often, tiles in enumerate(sets):
        for other in tiles:
            often_of.setdefault(other, often)
    return [(other, often_of.get(other)) for other in rule_tiles(rule)]


def tiles_coming(rule):
    """Of each tile the list of those that ever come of it, rising: a dict."""
    coming = {}
    for tile in rule_tiles(rule):
        coming[tile] = [other for other, often in comes_after(rule, tile) if often is not None]
    return coming


def groups_among(coming):
    groups = []
    for tile, others in coming.items():
        group = tuple([other for other in others if tile in coming[other]])
        if group[0] == tile:
            groups.append(group)
    return groups


def tile_groups(rule):
    return groups_among(tiles_coming(rule))


def shut_groups(rule):
    coming = tiles_coming(rule)
    return [group for group in groups_among(coming) if len(coming[group[0]]) == len(group)]


def mixing_time(rule):
    tiles = rule_tiles(rule)
    longest = 1
    for tile in tiles:
        sets, start = tile_sets(rule, tile)
        # What has all tiles after some growings has them ever after, so it shows where the sets come again.
        if len(sets[start]) < len(tiles):
            return None
        longest = max(longest, start)
    return longest


def why_unmixed(rule):
    if mixing_time(rule) is not None:
        return None
    tiles = rule_tiles(rule)
    for tile in tiles:
        for other, often in comes_after(rule, tile):
            if often is None:
                return (tile, other, 1, 0)
    # All tiles come of each other, so they can fail to mix by taking turns alone: each has its turn once a lap.
    sets, start = tile_sets(rule, tiles[0])
    return (tiles[0], tiles[0], len(sets) - start, 1)


def unmixed_good(rule, thing):
    if not isinstance(thing, tuple) or len(thing) != 4:
        return False
    tile, other, lap, rest = thing
    tiles = rule_tiles(rule)
    return tile in tiles and other in tiles and whole_from(lap, 1) and whole_within(rest, 0, lap - 1)


def unmixed_holds(rule, thing):
    if not unmixed_good(rule, thing):
        return False
    tile, other, lap, rest = thing
    sets, start = tile_sets(rule, tile)
    common = common_divisor(len(sets) - start, lap)
    for often, tiles in enumerate(sets):
        if other in tiles:
            # From the start on this set comes again and again, and meets all rests that the two laps leave open.
            if often % lap == rest or (often >= start and (rest - often) % common == 0):
                return False
    return True


def corner_walk(rule, tile, bottom, right):
    refuse_no_tile(rule, tile)
    high, wide, blocks = rule
    block_of = dict(blocks)
    row = bottom * (high - 1)
    column = right * (wide - 1)
    return walked(tile, lambda own: block_of[own][row][column])


def corner_tile(rule, tile, bottom, right, growings):
    path, start = corner_walk(rule, tile, bottom, right)
    if growings < start:
        return path[growings]
    return path[start + (growings - start) % (len(path) - start)]


def corner_round(rule, tile, bottom, right):
    path, start = corner_walk(rule, tile, bottom, right)
    return (start, len(path) - start)


def still_tiles(rule):
    return [tile for tile, block in rule[2] if block[0][0] == tile]
