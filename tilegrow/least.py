"""The least rule of a painted floor without end, and two of them laid over one another."""

from tilegrow.alike import floor_texts, pairs_under
from tilegrow.errors import NoPlace, TooGreat, Unlike
from tilegrow.families import reached
from tilegrow.plain import whole_within
from tilegrow.rules import rule_good, turned_rule

NAMES = "abcdefghijklmnopqrstuvwxyz"


def group_numbers(rule, paint):
    """Of each tile the number of its group: those of one number are one."""
    number_of = dict(paint)
    many = 0
    while True:
        looks = {}
        finer = {}
        for tile, block in rule[2]:
            look = (number_of[tile], tuple([number_of[part] for part in "".join(block)]))
            finer[tile] = looks.setdefault(look, len(looks))
        # Groups that a growing more does not part are never parted again.
        if len(looks) == many:
            return finer
        many = len(looks)
        number_of = finer


def alike_tiles(rule, paint):
    groups = {}
    for tile, number in group_numbers(rule, paint).items():
        groups.setdefault(number, []).append(tile)
    return [tuple(group) for group in groups.values()]


def named_rule(rule, things, parts_of):
    """The rule of the same sizes whose tiles are these things, named in order, their blocks what parts_of tells."""
    high, wide, blocks = rule
    name_of = dict(zip(things, NAMES))
    named = []
    for thing in things:
        text = "".join([name_of[part] for part in parts_of(thing)])
        named.append((name_of[thing], tuple([text[wide * row:wide * row + wide] for row in range(high)])))
    return (high, wide, tuple(named))


def least_floor(painted):
    rule, tile, paint = painted
    text_of = floor_texts(rule, 1)
    # Of tiles that are one the least stands for all.
    least_of = {}
    for group in alike_tiles(rule, paint):
        for own in group:
            least_of[own] = group[0]

    def parts_of(own):
        return [least_of[part] for part in text_of[own]]

    things = reached(least_of[tile], parts_of)
    sign_of = dict(paint)
    signs = tuple([(name, sign_of[own]) for name, own in zip(NAMES, things)])
    return (named_rule(rule, things, parts_of), NAMES[0], signs)


def least_holds(painted, thing):
    # Python holds a truth to be like 1, but a rule with one among its sizes is none.
    if not isinstance(thing, tuple) or len(thing) != 3 or not rule_good(thing[0]):
        return False
    return thing == least_floor(painted)


def laid_over(painted, other):
    rule = painted[0]
    if rule[:2] != other[0][:2]:
        raise Unlike()
    texts = (floor_texts(rule, 1), floor_texts(other[0], 1))

    def parts_of(pair):
        return pairs_under(texts, pair)

    pairs = reached((painted[1], other[1]), parts_of)
    if len(pairs) > len(NAMES):
        raise TooGreat(len(pairs), len(NAMES))
    named = tuple([(name, pair[0], pair[1]) for name, pair in zip(NAMES, pairs)])
    return (named_rule(rule, pairs, parts_of), NAMES[0], named)


def taken_signs(rule, paint, row, column):
    if not whole_within(row, 0, rule[0] - 1) or not whole_within(column, 0, rule[1] - 1):
        raise NoPlace()
    sign_of = dict(paint)
    return tuple([(tile, sign_of[block[row][column]]) for tile, block in rule[2]])


def turned_paint(painted):
    rule, tile, paint = painted
    return (turned_rule(rule), tile, paint)
