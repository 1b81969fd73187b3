"""What the other modules ask of plain values."""


def whole_from(thing, least):
    # Python counts truths among the ints; here they are no whole numbers.
    return isinstance(thing, int) and not isinstance(thing, bool) and least <= thing


def whole_within(thing, least, most):
    return whole_from(thing, least) and thing <= most


def letters_good(thing, most):
    if not isinstance(thing, str) or not 1 <= len(thing) <= most:
        return False
    return all(["a" <= sign <= "z" for sign in thing])


def tile_good(thing):
    return letters_good(thing, 1)


def common_divisor(one, other):
    while other != 0:
        one, other = other, one % other
    return abs(one)
