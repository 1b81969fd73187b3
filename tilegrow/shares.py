"""Still shares: how the tiles are shared out in a floor where growing changes nothing of it."""

from tilegrow.counts import table_of
from tilegrow.plain import common_divisor, whole_from


def row_lowered(row):
    divisor = 0
    for number in row:
        divisor = common_divisor(divisor, number)
    return [number // divisor for number in row] if divisor > 1 else row


def row_cleared(row, pivot, column):
    """The row, with as much of the pivot's row taken off that nothing is left in the column."""
    if row[column] == 0:
        return row
    return row_lowered([one * pivot[column] - two * row[column] for one, two in zip(row, pivot)])


def still_rows(rule):
    """One row for each tile: shares are still where, weighed by each row, they come to nought."""
    table = table_of(rule)
    area = rule[0] * rule[1]
    rows = []
    for number in range(len(table)):
        row = [line[number] for line in table]
        row[number] = row[number] - area
        rows.append(row)
    return rows


def solved_rows(rows):
    """A dict of columns, each with the one row that has anything in it; columns that stay free are not in it."""
    solved = {}
    left = rows
    for column in range(len(rows)):
        picked = [row for row in left if row[column] != 0]
        if len(picked) > 0:
            pivot = picked[0]
            left = [row_cleared(row, pivot, column) for row in picked[1:]] + [row for row in left if row[column] == 0]
            solved = dict([(own, row_cleared(row, pivot, column)) for own, row in solved.items()])
            solved[column] = pivot
    return solved


def still_shares(rule):
    many = len(rule[2])
    solved = solved_rows(still_rows(rule))
    free = [column for column in range(many) if column not in solved]
    if len(free) > 1:
        return None
    # All pivots divide the weight of the free tile, so that the other weights are whole, too.
    weight = 1
    for column, row in solved.items():
        weight = weight * abs(row[column]) // common_divisor(weight, row[column])
    weights = []
    for column in range(many):
        if column in solved:
            row = solved[column]
            weights.append(-row[free[0]] * weight // row[column])
        else:
            weights.append(weight)
    whole = sum(weights)
    return tuple([lowest_fraction(top, whole) for top in weights])


def lowest_fraction(top, bottom):
    divisor = common_divisor(top, bottom)
    return (top // divisor, bottom // divisor)


def fraction_good(thing):
    if not isinstance(thing, tuple) or len(thing) != 2:
        return False
    top, bottom = thing
    return whole_from(top, 0) and whole_from(bottom, 1) and common_divisor(top, bottom) == 1


def shares_hold(rule, thing):
    if not isinstance(thing, tuple) or len(thing) != len(rule[2]):
        return False
    if not all([fraction_good(share) for share in thing]):
        return False
    common = 1
    for top, bottom in thing:
        common = common * bottom // common_divisor(common, bottom)
    weights = [top * (common // bottom) for top, bottom in thing]
    if sum(weights) != common:
        return False
    return all([sum([one * two for one, two in zip(row, weights)]) == 0 for row in still_rows(rule)])
