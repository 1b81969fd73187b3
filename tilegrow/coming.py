"""Pieces that ever come of a tile, and where they come first."""

from tilegrow.errors import NoFloor, NoNumber
from tilegrow.families import reached
from tilegrow.floors import cut_floor, floor_within
from tilegrow.pieces import (
    MOST_CROSSED, MOST_SIDE, block_parts, fittings_of, piece_fits, shapes_within, sprout_plan, sprouts,
)
from tilegrow.plain import whole_within
from tilegrow.rules import floors_rising, laid_floor, refuse_no_tile


def next_wave(high, wide, parts_of, wave, seen):
    """What comes first of that of the wave, by one growing: a dict of the first places.

    parts_of tells of each one in the wave, as tuples (i, j, part), what comes of it where in its grown floor. What
    comes first after some growings comes of such alone as comes first one growing ahead; so the first place of each
    needs no wave but this one.
    """
    grown = {}
    for piece, place in wave.items():
        for i, j, part in parts_of(piece):
            if part not in seen:
                there = (place[0] * high + i, place[1] * wide + j)
                if part not in grown or there < grown[part]:
                    grown[part] = there
    # The places are not kept with what was seen: they may be so great that all of them have no room.
    for part in grown:
        seen[part] = True
    return grown


def crossing_parts(rule):
    """For next_wave: of a piece, those of one or two rows and columns that touch the blocks of all its tiles."""
    high, wide, blocks = rule
    block_of = dict(blocks)
    plan = sprout_plan(rule, shapes_within(MOST_CROSSED, MOST_CROSSED))
    return lambda piece: sprouts(block_of, high, plan, piece)


def crossings_coming(rule, tile):
    """All pieces of one or two rows and columns that ever come of the tile."""
    parts_of = crossing_parts(rule)
    return reached((tile,), lambda piece: [part for i, j, part in parts_of(piece)])


def pieces_coming(rule, tile, rows, columns):
    block_of = dict(rule[2])
    plan = sprout_plan(rule, [(rows, columns)])
    found = {(tile,): True} if rows == 1 and columns == 1 else {}
    # Three tiles in a row touch two blocks at most, where blocks have more than one.
    for crossing in crossings_coming(rule, tile):
        for i, j, piece in sprouts(block_of, rule[0], plan, crossing):
            found[piece] = True
    return found


def pieces_of(rule, tile, high, wide):
    refuse_no_tile(rule, tile)
    if not whole_within(high, 1, MOST_SIDE) or not whole_within(wide, 1, MOST_SIDE):
        raise NoNumber()
    return sorted(pieces_coming(rule, tile, high, wide))


def windows(floor, rows, columns):
    found = []
    for row in range(len(floor) - rows + 1):
        for column in range(len(floor[0]) - columns + 1):
            found.append(cut_floor(floor, row, column, rows, columns))
    return found


def great_pieces(floor):
    return windows(floor, min(len(floor), MOST_SIDE), min(len(floor[0]), MOST_SIDE))


def great_side(factor):
    """How many rows, or columns, great pieces have when floors have grown often."""
    return 1 if factor == 1 else MOST_SIDE


def closed_of(rule, tile):
    refuse_no_tile(rule, tile)
    high, wide, blocks = rule
    found = pieces_coming(rule, tile, great_side(high), great_side(wide))
    # After no growing, or one, the floor may not be high or wide enough for those.
    found[(tile,)] = True
    for piece in great_pieces(dict(blocks)[tile]):
        found[piece] = True
    return sorted(found)


def grown_parts(rule, floor):
    """Parts of the floor whose great pieces, when they are grown, are those of the floor grown."""
    rows = len(floor) if rule[0] == 1 else min(len(floor), MOST_CROSSED)
    columns = len(floor[0]) if rule[1] == 1 else min(len(floor[0]), MOST_CROSSED)
    return windows(floor, rows, columns)


def closed_holds(rule, tile, thing):
    refuse_no_tile(rule, tile)
    block_of = dict(rule[2])
    if not isinstance(thing, list) or not floors_rising(block_of, thing, MOST_SIDE):
        return False
    listed = dict([(floor, True) for floor in thing])
    if (tile,) not in listed:
        return False
    looked = {}
    for floor in thing:
        for part in grown_parts(rule, floor):
            if part not in looked:
                looked[part] = True
                grown = laid_floor(block_of, rule[0], part)
                if not all([piece in listed for piece in great_pieces(grown)]):
                    return False
    return True


def places_grown(rule, fittings, wave):
    """Where, one growing on, pieces of the wave lay what the fittings are of."""
    places = []
    for i, j, fitting in fittings:
        for piece, place in wave.items():
            if piece_fits(fitting, piece):
                places.append((place[0] * rule[0] + i, place[1] * rule[1] + j))
    return places


def comes_at(rule, tile, piece):
    refuse_no_tile(rule, tile)
    if not floor_within(piece, MOST_SIDE):
        raise NoFloor()
    if piece == (tile,):
        return (0, 0, 0)
    fittings = fittings_of(rule, block_parts(rule), piece)
    parts_of = crossing_parts(rule)
    wave = {(tile,): (0, 0)}
    seen = {(tile,): True}
    growings = 0
    while len(wave) > 0 and len(fittings) > 0:
        growings = growings + 1
        places = places_grown(rule, fittings, wave)
        if len(places) > 0:
            row, column = min(places)
            return (growings, row, column)
        wave = next_wave(rule[0], rule[1], parts_of, wave, seen)
    return None
