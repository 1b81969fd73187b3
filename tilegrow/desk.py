"""The desk: it is told rows, does what they tell, and answers what they ask."""

from tilegrow.alike import first_unlike, refuse_not_still, sign_at
from tilegrow.coming import comes_at, pieces_of
from tilegrow.counts import tile_counts
from tilegrow.errors import NoFloor, NoNumber, NoRow, NoRule, NoTile
from tilegrow.far import line_far, tile_far
from tilegrow.floors import floor_good
from tilegrow.plain import tile_good, whole_within
from tilegrow.rules import grown_often, sizes_good
from tilegrow.texts import floor_shown, number_shown, number_written, rows_read, rule_shown

MOST_OFTEN = 1000

# What a desk keeps is a tuple (high, wide, laid): laid is a dict, of each tile with a block this and its sign. It is
# never changed, so that what was kept ahead of a deed is there when the deed is undone.


def refuse_unlaid(laid, tile):
    if tile not in laid:
        raise NoTile(tile)


def told_sizes(kept, handed):
    high, wide = handed
    if not sizes_good(high, wide):
        raise NoRule(-1)
    return (high, wide, {})


def told_block(kept, handed):
    high, wide, laid = kept
    tile, block = handed
    if len(block) != high or len(block[0]) != wide:
        raise NoFloor()
    changed = dict(laid)
    changed[tile] = (block, laid[tile][1] if tile in laid else tile)
    return (high, wide, changed)


def told_drop(kept, handed):
    high, wide, laid = kept
    refuse_unlaid(laid, handed[0])
    return (high, wide, dict([(tile, held) for tile, held in laid.items() if tile != handed[0]]))


def told_paint(kept, handed):
    high, wide, laid = kept
    tile, sign = handed
    refuse_unlaid(laid, tile)
    changed = dict(laid)
    changed[tile] = (laid[tile][0], sign)
    return (high, wide, changed)


def kept_rule(kept):
    """The rule that is kept; a tile in a block of it may yet lack its own."""
    high, wide, laid = kept
    return (high, wide, tuple([(tile, laid[tile][0]) for tile in sorted(laid)]))


def kept_paint(kept):
    laid = kept[2]
    return tuple([(tile, laid[tile][1]) for tile in sorted(laid)])


def refuse_often(often):
    if not whole_within(often, 0, MOST_OFTEN):
        raise NoNumber()


def numbers_shown(numbers):
    return " ".join([number_shown(number) for number in numbers])


def asked_grow(kept, handed):
    tile, often = handed
    refuse_often(often)
    return floor_shown(grown_often(kept_rule(kept), (tile,), often))


def asked_tile(kept, handed):
    tile, growings, row, column = handed
    return tile_far(kept_rule(kept), tile, growings, row, column)


def asked_line(kept, handed):
    tile, growings, row, column = handed
    return " ".join(line_far(kept_rule(kept), tile, growings, row, column))


def asked_counts(kept, handed):
    tile, growings = handed
    refuse_often(growings)
    counts = tile_counts(kept_rule(kept), tile, growings)
    return " ".join([own + " " + number_shown(many) for own, many in counts])


def asked_pieces(kept, handed):
    tile, high, wide = handed
    pieces = pieces_of(kept_rule(kept), tile, high, wide)
    ends = [floor_shown(piece) for piece in pieces[:1] + pieces[-1:]]
    return " ".join([number_shown(len(pieces))] + ends)


def asked_comes(kept, handed):
    tile, piece = handed
    found = comes_at(kept_rule(kept), tile, piece)
    return "never" if found is None else numbers_shown(found)


def asked_still(kept, handed):
    tile, row, column = handed
    return sign_at((kept_rule(kept), tile, kept_paint(kept)), row, column)


def asked_same(kept, handed):
    tile, other = handed
    rule = kept_rule(kept)
    paint = kept_paint(kept)
    refuse_not_still(rule, tile)
    refuse_not_still(rule, other)
    found = first_unlike((rule, tile, paint), (rule, other, paint))
    return "alike" if found is None else numbers_shown(found)


# Behind each word: what further words are due (T a tile, S a sign, F a floor, N a number), and what it does.
DEEDS = {
    "sizes": ("NN", told_sizes),
    "block": ("TF", told_block),
    "drop": ("T", told_drop),
    "paint": ("TS", told_paint),
}
QUESTIONS = {
    "grow": ("TN", asked_grow),
    "tile": ("TNNN", asked_tile),
    "line": ("TNNN", asked_line),
    "counts": ("TN", asked_counts),
    "pieces": ("TNN", asked_pieces),
    "comes": ("TF", asked_comes),
    "still": ("TNN", asked_still),
    "same": ("TT", asked_same),
}


def word_read(due, word):
    if due == "N" and number_written(word):
        return int(word)
    if due == "F" and floor_good(rows_read(word)):
        return rows_read(word)
    if due in ("T", "S") and tile_good(word):
        return word
    raise NoRow()


def words_read(form, words):
    if len(words) != len(form):
        raise NoRow()
    return [word_read(due, word) for due, word in zip(form, words)]


def refuse_lacking(laid, form, handed):
    """Refuses a question where a tile that stands in a block, or is handed in, has none."""
    text = "".join(["".join(block) for block, sign in laid.values()])
    for tile in sorted(set(text)):
        refuse_unlaid(laid, tile)
    for due, word in zip(form, handed):
        if due == "T":
            refuse_unlaid(laid, word)


class Desk:
    def __init__(self):
        # What is kept, at first and behind each deed that stands.
        self.states = [(1, 2, {})]

    def say(self, row):
        if not isinstance(row, str):
            raise NoRow()
        words = row.split(" ")
        if words[0] in DEEDS:
            return self.done(words)
        if words[0] in QUESTIONS:
            return self.answered(words)
        if row == "back":
            return self.undone()
        if row == "rule":
            return rule_shown(kept_rule(self.states[-1])).replace("\n", " ; ")
        raise NoRow()

    def done(self, words):
        form, deed = DEEDS[words[0]]
        handed = words_read(form, words[1:])
        self.states.append(deed(self.states[-1], handed))
        return "ok"

    def answered(self, words):
        form, question = QUESTIONS[words[0]]
        handed = words_read(form, words[1:])
        kept = self.states[-1]
        refuse_lacking(kept[2], form, handed)
        return question(kept, handed)

    def undone(self):
        if len(self.states) == 1:
            raise NoRow()
        self.states.pop()
        return "ok"
