"""Floors: tuples of rows, each a text of small letters."""

from tilegrow.plain import letters_good

MOST_TILES = 64


def floor_good(thing):
    if not isinstance(thing, tuple) or not 1 <= len(thing) <= MOST_TILES:
        return False
    for row in thing:
        # The first row is held to be a text before its length is asked for.
        if not letters_good(row, MOST_TILES) or len(row) != len(thing[0]):
            return False
    return True


def floor_within(thing, most):
    return floor_good(thing) and len(thing) <= most and len(thing[0]) <= most


def column_text(floor, column):
    return "".join([row[column] for row in floor])


def turned_floor(floor):
    return tuple([column_text(floor, column) for column in range(len(floor[0]))])


def mirrored_floor(floor):
    return tuple([row[::-1] for row in floor])


def cut_floor(floor, row, column, rows, columns):
    return tuple([tiles[column:column + columns] for tiles in floor[row:row + rows]])
