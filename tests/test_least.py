"""9.1 to 9.6: the least rule, and 0.2, 0.3, 0.4 as far as they speak of it."""

import copy
import itertools
import random
import unittest

from samples import (
    ALPHABET, CHESS, FLAT, GREAT_RULES, LONELY, MANY_RULES, PARTED, SIZES, STRIPE, TOWER, TURNS, Asker, even_rule,
    laid_far, laid_sizes, odd_numbers, odd_things, own_paint, paint_of, renamed, signs_laid, still_rule, stills_of,
    tile_by_hand, tiles_of,
)
from tilegrow.alike import alike_of, first_unlike, paint_good, sign_at, still_at
from tilegrow.errors import NoPlace, Unlike
from tilegrow.families import still_tiles
from tilegrow.least import alike_tiles, laid_over, least_floor, least_holds, taken_signs, turned_paint
from tilegrow.rules import rule_good, turned_rule

MORSE = ((1, 2, (("a", ("ab",)), ("b", ("ba",)))), "a", (("a", "x"), ("b", "y")))


def painted_floors():
    found = []
    for number, (high, wide) in enumerate(SIZES):
        for many, signs in ((1, "x"), (2, "xx"), (2, "xy"), (3, "xxy"), (4, "xyxx"), (5, "xxxxy"), (5, "xyxyz")):
            rule = still_rule(high, wide, ALPHABET[:many], 5 * number + many)
            found.append((rule, ALPHABET[number % many], paint_of(rule, signs)))
    return found


PAINTED = painted_floors() + [
    (rule, tile, paint_of(rule, signs))
    for rule in (CHESS, STRIPE, TOWER, FLAT, LONELY, PARTED) for tile in stills_of(rule) for signs in ("xy", "xxy", "q")
]
GREAT_STILL = still_rule(4, 4, ALPHABET, 3)
GREAT = [(GREAT_STILL, "m", paint_of(GREAT_STILL, signs)) for signs in ("x", "xy", "x" * 25 + "y", ALPHABET)]


def doubled(painted):
    """The same signs with each tile under two names, which stand in turn; the tiles of some names never come."""
    rule, tile, paint = painted
    own = dict(zip(tiles_of(rule), ALPHABET[0::2]))
    twin = dict(zip(tiles_of(rule), ALPHABET[1::2]))
    blocks = []
    for first, block in rule[2]:
        for turn, name in enumerate((own[first], twin[first])):
            rows = [
                "".join((own if (row + column + turn) % 2 == 0 else twin)[part] for column, part in enumerate(tiles))
                for row, tiles in enumerate(block)
            ]
            blocks.append((name, tuple(rows)))
    signs = [(names[first], sign) for first, sign in paint for names in (own, twin)]
    return ((rule[0], rule[1], tuple(sorted(blocks))), own[tile], tuple(sorted(signs)))


def groups_by_hand(rule, paint):
    """9.2 by the looks of ever greater floors: two tiles are one where they look alike as often as there are tiles."""
    look = dict(paint)
    for growing in range(len(rule[2])):
        look = {tile: (look[tile], tuple(tuple(look[part] for part in row) for row in block))
                for tile, block in rule[2]}
        # Looks that are the same have the same number, so that they don't grow.
        numbers = {}
        look = {tile: numbers.setdefault(seen, len(numbers)) for tile, seen in look.items()}
    groups = {}
    for tile in tiles_of(rule):
        groups.setdefault(look[tile], []).append(tile)
    return sorted(tuple(group) for group in groups.values())


def names_by_hand(rule, tile):
    """The tiles of a rule as they come when one goes through the blocks row by row."""
    found = [tile]
    for own in found:
        for part in "".join(dict(rule[2])[own]):
            if part not in found:
                found.append(part)
    return found


class AlikeTilesTest(Asker):
    def test_ordinary_rules(self):
        self.assertEqual(self.told(alike_tiles, STRIPE, (("a", "x"), ("b", "x"), ("c", "x"))), [("a", "b", "c")])
        self.assertEqual(self.told(alike_tiles, STRIPE, (("a", "x"), ("b", "y"), ("c", "x"))), [("a",), ("b",), ("c",)])
        rule = (1, 2, (("a", ("ac",)), ("b", ("bd",)), ("c", ("db",)), ("d", ("ca",))))
        self.assertEqual(self.told(alike_tiles, rule, (("a", "x"), ("b", "x"), ("c", "y"), ("d", "y"))),
                         [("a", "b"), ("c", "d")])
        self.assertEqual(self.told(alike_tiles, rule, (("a", "x"), ("b", "y"), ("c", "y"), ("d", "x"))),
                         [("a",), ("b",), ("c",), ("d",)])
        self.assertEqual(self.told(alike_tiles, TURNS, (("a", "x"), ("b", "y"), ("c", "x"))), [("a",), ("b",), ("c",)])

    def test_groups_that_lie_across_one_another(self):
        rule = even_rule(2, 2, "abcde")
        paint = (("a", "y"), ("b", "x"), ("c", "y"), ("d", "x"), ("e", "w"))
        self.assertEqual(self.told(alike_tiles, rule, paint), [("a", "c"), ("b", "d"), ("e",)])

    def test_all_signs_the_same(self):
        for rule in MANY_RULES + GREAT_RULES:
            self.assertEqual(self.told(alike_tiles, rule, paint_of(rule, "s")), [tuple(tiles_of(rule))])

    def test_all_signs_apart(self):
        for rule in MANY_RULES + GREAT_RULES:
            self.assertEqual(self.told(alike_tiles, rule, own_paint(rule)), [(tile,) for tile in tiles_of(rule)])
            backwards = tuple(zip(tiles_of(rule), reversed(tiles_of(rule))))
            self.assertEqual(self.told(alike_tiles, rule, backwards), [(tile,) for tile in tiles_of(rule)])

    def test_against_laid_floors(self):
        for rule in MANY_RULES:
            for signs in ("xy", "xxy", "xyyx", "xxxxy"):
                paint = paint_of(rule, signs)
                groups = self.told(alike_tiles, rule, paint)
                group_of = {tile: group for group in groups for tile in group}
                for growings in laid_sizes(rule, 300):
                    laid = {tile: signs_laid((rule, tile, paint), growings) for tile in tiles_of(rule)}
                    for one, other in itertools.combinations(tiles_of(rule), 2):
                        if group_of[one] == group_of[other]:
                            self.assertEqual(laid[one], laid[other])
                self.assertEqual(groups, groups_by_hand(rule, paint))

    def test_unlike_tiles_are_unlike_somewhere(self):
        for rule, tile, paint in PAINTED:
            if len(rule[2]) <= 3:
                group_of = {own: group for group in alike_tiles(rule, paint) for own in group}
                for one, other in itertools.combinations(tiles_of(rule), 2):
                    laid = [
                        signs_laid((rule, one, paint), growings) == signs_laid((rule, other, paint), growings)
                        for growings in range(3)
                    ]
                    self.assertEqual(all(laid), group_of[one] == group_of[other])

    def test_tiles_that_are_unlike_after_many_growings_alone(self):
        # Each tile lays the next one; the last one alone has another sign.
        rule = (1, 2, tuple((tile, (after * 2,)) for tile, after in zip(ALPHABET, ALPHABET[1:] + "z")))
        self.assertEqual(self.told(alike_tiles, rule, paint_of(rule, "x" * 25 + "y")), [(tile,) for tile in ALPHABET])
        self.assertEqual(self.told(alike_tiles, rule, paint_of(rule, "x" * 24 + "yy")),
                         [(tile,) for tile in ALPHABET[:24]] + [("y", "z")])
        self.assertEqual(self.told(alike_tiles, rule, paint_of(rule, "x" * 24 + "yx"))[-2:], [("y",), ("z",)])

    def test_two_names(self):
        for painted in PAINTED:
            twice = doubled(painted)
            groups = self.told(alike_tiles, twice[0], twice[2])
            for number in range(len(painted[0][2])):
                pair = ALPHABET[2 * number:2 * number + 2]
                self.assertTrue(any(pair[0] in group and pair[1] in group for group in groups))
            self.assertEqual(len(groups), len(alike_tiles(painted[0], painted[2])))
            self.assertEqual(groups, groups_by_hand(twice[0], twice[2]))

    def test_the_greatest_rules(self):
        for rule in GREAT_RULES + [GREAT_STILL]:
            for signs in ("xy", "x" * 25 + "y", "xyz"):
                paint = paint_of(rule, signs)
                self.assertEqual(self.told(alike_tiles, rule, paint), groups_by_hand(rule, paint))


class LeastFloorTest(Asker):
    def test_ordinary_floors(self):
        self.assertEqual(self.told(least_floor, MORSE), MORSE)
        self.assertEqual(self.told(least_floor, (MORSE[0], "b", MORSE[2])),
                         (MORSE[0], "a", (("a", "y"), ("b", "x"))))
        self.assertEqual(self.told(least_floor, (STRIPE, "b", (("a", "p"), ("b", "q"), ("c", "r")))),
                         (MORSE[0], "a", (("a", "q"), ("b", "p"))))
        self.assertEqual(self.told(least_floor, (STRIPE, "a", (("a", "p"), ("b", "p"), ("c", "r")))),
                         ((1, 2, (("a", ("aa",)),)), "a", (("a", "p"),)))

    def test_tiles_are_named_as_they_come_block_by_block(self):
        rule = (2, 2, (("e", ("ez", "me")), ("k", ("kk", "km")), ("m", ("pz", "zk")), ("p", ("pp", "pp")),
                       ("z", ("zk", "mz"))))
        # Behind e come z and m, of the block of e; then k of that of z; then p of that of m.
        expected = (2, 2, (("a", ("ab", "ca")), ("b", ("bd", "cb")), ("c", ("eb", "bd")), ("d", ("dd", "dc")),
                           ("e", ("ee", "ee"))))
        signs = (("a", "e"), ("b", "z"), ("c", "m"), ("d", "k"), ("e", "p"))
        self.assertEqual(self.told(least_floor, (rule, "e", own_paint(rule))), (expected, "a", signs))

    def test_block_by_block_and_not_as_deep_as_it_goes(self):
        rule = (1, 3, (("a", ("abc",)), ("b", ("edb",)), ("c", ("cfd",)), ("d", ("ddd",)), ("e", ("eee",)),
                       ("f", ("fff",))))
        expected = (1, 3, (("a", ("abc",)), ("b", ("deb",)), ("c", ("cfe",)), ("d", ("ddd",)), ("e", ("eee",)),
                           ("f", ("fff",))))
        signs = (("a", "a"), ("b", "b"), ("c", "c"), ("d", "e"), ("e", "d"), ("f", "f"))
        self.assertEqual(self.told(least_floor, (rule, "a", own_paint(rule))), (expected, "a", signs))

    def test_tiles_that_never_come_are_left_out(self):
        least = self.told(least_floor, (LONELY, "b", own_paint(LONELY)))
        self.assertEqual(least, ((2, 2, (("a", ("aa", "aa")),)), "a", (("a", "b"),)))
        least = self.told(least_floor, (LONELY, "a", own_paint(LONELY)))
        self.assertEqual(tiles_of(least[0]), ["a", "b"])
        least = self.told(least_floor, (PARTED, "b", own_paint(PARTED)))
        self.assertEqual(tiles_of(least[0]), ["a", "b"])
        for rule in (even_rule(4, 4, ALPHABET), even_rule(1, 2, ALPHABET)):
            self.assertEqual(self.told(least_floor, (rule, "q", own_paint(rule))),
                             (even_rule(rule[0], rule[1]), "a", (("a", "q"),)))

    def test_what_it_is_to_be(self):
        for painted in PAINTED + GREAT:
            least = self.told(least_floor, painted)
            rule, tile, paint = least
            self.assertTrue(rule_good(rule))
            self.assertTrue(paint_good(rule, paint))
            self.assertEqual(tile, "a")
            self.assertIn("a", still_tiles(rule))
            self.assertEqual(rule[:2], painted[0][:2])
            self.assertEqual(tiles_of(rule), list(ALPHABET[:len(rule[2])]))
            self.assertEqual(names_by_hand(rule, "a"), tiles_of(rule))
            self.assertEqual([len(group) for group in groups_by_hand(rule, paint)], [1] * len(rule[2]))
            self.assertIsNone(first_unlike(painted, least))

    def test_the_same_signs_on_laid_floors(self):
        for painted in PAINTED:
            least = least_floor(painted)
            for growings in laid_sizes(painted[0], 300):
                self.assertEqual(signs_laid(least, growings), signs_laid(painted, growings))
            row = 0 if painted[0][0] == 1 else 10 ** 39
            column = 0 if painted[0][1] == 1 else 10 ** 40 - 1
            self.assertEqual(sign_at(least, row, column), sign_at(painted, row, column))

    def test_as_few_tiles_as_those_of_any_such(self):
        def rules_of(high, wide, many):
            rows = ["".join(row) for row in itertools.product(ALPHABET[:many], repeat=wide)]
            floors = list(itertools.product(rows, repeat=high))
            for blocks in itertools.product(floors, repeat=many):
                if blocks[0][0][0] == "a":
                    yield (high, wide, tuple(zip(ALPHABET, blocks)))

        for high, wide in ((1, 2), (2, 1), (1, 3)):
            for painted in PAINTED:
                if painted[0][:2] != (high, wide):
                    continue
                many = len(least_floor(painted)[0][2])
                for fewer in range(1, min(many, 3)):
                    for rule in rules_of(high, wide, fewer):
                        for signs in itertools.product("xyz", repeat=fewer):
                            other = (rule, "a", tuple(zip(ALPHABET, signs)))
                            self.assertIsNotNone(first_unlike(painted, other))

    def test_by_other_names_it_is_the_same(self):
        source = random.Random(9)
        for painted in PAINTED + GREAT:
            least = least_floor(painted)
            for time in range(2):
                tiles = tiles_of(painted[0])
                names = source.sample(ALPHABET, len(tiles))
                self.assertEqual(least_floor(renamed(painted, dict(zip(tiles, names)))), least)

    def test_tiles_under_two_names(self):
        for painted in PAINTED:
            self.assertEqual(self.told(least_floor, doubled(painted)), least_floor(painted))

    def test_26_tiles_that_are_all_needed(self):
        rule = (1, 2, tuple((tile, (tile + after,)) for tile, after in zip(ALPHABET, ALPHABET[1:] + "a")))
        painted = (rule, "a", own_paint(rule))
        self.assertEqual(self.told(least_floor, painted), painted)
        one_sign_apart = (rule, "a", paint_of(rule, "x" * 25 + "y"))
        self.assertEqual(self.told(least_floor, one_sign_apart), one_sign_apart)


class LeastHoldsTest(Asker):
    def test_what_least_floor_told(self):
        for painted in PAINTED + GREAT:
            self.yes(least_holds, painted, least_floor(painted))

    def test_one_thing_otherwise(self):
        painted = (CHESS, "c", (("a", "x"), ("b", "y"), ("c", "x")))
        rule, tile, paint = least_floor(painted)
        high, wide, blocks = rule
        self.yes(least_holds, painted, (rule, tile, paint))
        for number, (own, block) in enumerate(blocks):
            for row, column in itertools.product(range(2), range(2)):
                for other in "abcdz":
                    if block[row][column] != other:
                        tiles = block[row][:column] + other + block[row][column + 1:]
                        changed = block[:row] + (tiles,) + block[row + 1:]
                        further = blocks[:number] + ((own, changed),) + blocks[number + 1:]
                        self.no(least_holds, painted, ((high, wide, further), tile, paint))
        for number, (own, sign) in enumerate(paint):
            for other in ((own, "z"), ("z", sign), (own,), [own, sign], (own, sign, sign)):
                self.no(least_holds, painted, (rule, tile, paint[:number] + (other,) + paint[number + 1:]))
        for other in "bcz":
            self.no(least_holds, painted, (rule, other, paint))
        for other in ((rule, tile), (rule, tile, paint, paint), [rule, tile, paint], (rule, tile, list(paint)),
                      (list(rule), tile, paint), ((high, wide, list(blocks)), tile, paint), (tile, rule, paint),
                      (rule, (tile,), paint), (rule, tile, paint[::-1]), (rule, tile, paint[1:]),
                      (rule, tile, paint + paint[-1:]), ((high, wide, blocks[1:]), tile, paint), rule,
                      ((high, wide, blocks[::-1]), tile, paint), ((high, 1, blocks), tile, paint),
                      ((high, wide, blocks + blocks[-1:]), tile, paint), ((high, wide), tile, paint)):
            self.no(least_holds, painted, other)

    def test_the_painted_floor_itself_where_it_is_not_the_least(self):
        for painted in PAINTED:
            self.assertIs(least_holds(painted, painted), painted == least_floor(painted))
            self.no(least_holds, painted, doubled(painted))

    def test_with_other_names(self):
        painted = (CHESS, "a", own_paint(CHESS))
        least = least_floor(painted)
        for names in itertools.permutations("abc"):
            other = renamed(least, dict(zip("abc", names)))
            self.assertIs(least_holds(painted, other), names == ("a", "b", "c"))

    def test_truths_are_no_sizes(self):
        rule, tile, paint = least_floor(MORSE)
        self.yes(least_holds, MORSE, ((1, 2, rule[2]), tile, paint))
        self.no(least_holds, MORSE, ((True, 2, rule[2]), tile, paint))
        tower = (TOWER, "a", own_paint(TOWER))
        rule, tile, paint = least_floor(tower)
        self.yes(least_holds, tower, (rule, tile, paint))
        self.no(least_holds, tower, ((3, True, rule[2]), tile, paint))

    def test_whatever_is_handed_in(self):
        rule, tile, paint = least_floor(MORSE)
        for thing in odd_things():
            for other in (thing, (thing,), (thing, tile, paint), (rule, thing, paint), (rule, tile, thing),
                          (thing, thing, thing), (rule, tile, paint, thing), ((thing, 2, rule[2]), tile, paint),
                          ((1, thing, rule[2]), tile, paint), ((1, 2, thing), tile, paint),
                          (rule, tile, (thing,) + paint[1:]), (rule, tile, paint + (thing,)),
                          ((1, 2, (thing,) + rule[2][1:]), tile, paint)):
                self.no(least_holds, MORSE, other)


def pairs_laid(painted, other, most):
    """The pairs of tiles that lie at one place of both floors, after each number of growings, as they come."""
    found = set()
    for growings in laid_sizes(painted[0], most):
        for tiles, facing in zip(laid_far(painted[0], painted[1], growings), laid_far(other[0], other[1], growings)):
            found |= set(zip(tiles, facing))
    return found


def reached_pairs(painted, other):
    found = {(painted[1], other[1])}
    waiting = list(found)
    while waiting:
        one, two = waiting.pop()
        for pair in zip("".join(dict(painted[0][2])[one]), "".join(dict(other[0][2])[two])):
            if pair not in found:
                found.add(pair)
                waiting.append(pair)
    return found


def wheel(many, wide=2):
    """From a still tile a a wheel of so many tiles: b, c .. each laying the next one alone."""
    tiles = ALPHABET[1:many + 1]
    blocks = [("a", ("a" * (wide - 1) + "b",))] + [
        (tile, (after * wide,)) for tile, after in zip(tiles, tiles[1:] + tiles[0])
    ]
    rule = (1, wide, tuple(blocks))
    return (rule, "a", own_paint(rule))


class LaidOverTest(Asker):
    def test_ordinary_floors(self):
        stripe = (STRIPE, "b", own_paint(STRIPE))
        self.assertEqual(self.told(laid_over, MORSE, stripe),
                         (MORSE[0], "a", (("a", "a", "b"), ("b", "b", "a"))))
        other = ((1, 2, (("q", ("qr",)), ("r", ("rr",)))), "q", (("q", "x"), ("r", "x")))
        self.assertEqual(self.told(laid_over, MORSE, other), (
            (1, 2, (("a", ("ab",)), ("b", ("bc",)), ("c", ("cb",)))), "a",
            (("a", "a", "q"), ("b", "b", "r"), ("c", "a", "r")),
        ))

    def test_named_as_they_come_block_by_block(self):
        for one, other in self.meeting():
            if len(reached_pairs(one, other)) > 26:
                continue
            rule, tile, pairs = self.told(laid_over, one, other)
            self.assertTrue(rule_good(rule))
            self.assertEqual((rule[:2], tile), (one[0][:2], "a"))
            self.assertEqual(pairs[0], ("a", one[1], other[1]))
            self.assertEqual(list(pairs), sorted(pairs))
            self.assertEqual([name for name, first, second in pairs], tiles_of(rule))
            self.assertEqual(tiles_of(rule), list(ALPHABET[:len(rule[2])]))
            self.assertEqual(names_by_hand(rule, "a"), tiles_of(rule))
            self.assertEqual({pair[1:] for pair in pairs}, reached_pairs(one, other))
            self.assertLessEqual(pairs_laid(one, other, 100), reached_pairs(one, other))

    def meeting(self):
        return [(one, other) for one, other in itertools.product(PAINTED[::2], PAINTED[1::2])
                if one[0][:2] == other[0][:2]]

    def test_its_floor_tells_what_lies_in_both(self):
        met = 0
        for one, other in self.meeting():
            if len(reached_pairs(one, other)) <= 26:
                met += 1
                rule, tile, pairs = laid_over(one, other)
                first = {name: own for name, own, facing in pairs}
                second = {name: facing for name, own, facing in pairs}
                growings = laid_sizes(rule, 200)[-1]
                floor = laid_far(rule, tile, growings)
                for names, values in ((first, one), (second, other)):
                    self.assertEqual(tuple("".join(names[own] for own in row) for row in floor),
                                     laid_far(values[0], values[1], growings))
                row, column = (0 if rule[0] == 1 else 10 ** 39), (0 if rule[1] == 1 else 10 ** 38)
                there = still_at(rule, tile, row, column)
                self.assertEqual(first[there], tile_by_hand(one[0], one[1], row, column))
                self.assertEqual(second[there], tile_by_hand(other[0], other[1], row, column))
        self.assertGreater(met, 50)

    def test_paints_do_not_matter(self):
        for one, other in self.meeting():
            if len(reached_pairs(one, other)) <= 26:
                bare = (one[0], one[1], paint_of(one[0], "k"))
                apart = (other[0], other[1], own_paint(other[0]))
                self.assertEqual(laid_over(one, other), laid_over(bare, apart))

    def test_unlike(self):
        for one, other in itertools.product(SIZES, SIZES):
            painted = (even_rule(*one), "a", (("a", "x"),))
            against = (even_rule(*other), "a", (("a", "x"),))
            if one == other:
                self.assertEqual(self.told(laid_over, painted, against), (even_rule(*one), "a", (("a", "a", "a"),)))
            else:
                self.refused(Unlike, laid_over, painted, against)

    def test_unlike_ahead_of_too_great(self):
        one, other = GREAT[0], (still_rule(4, 3, ALPHABET, 1), "a", own_paint(GREAT_STILL))
        self.refused(Unlike, laid_over, one, other)
        self.refused(Unlike, laid_over, wheel(9, 2), wheel(10, 4))

    def test_just_26_and_beyond(self):
        # The still tiles are one pair; wheels of 25 tiles and of one, or of 5 and of 25, meet in 25 more.
        for one, other in ((25, 1), (1, 25), (5, 25), (25, 25)):
            rule, tile, pairs = self.told(laid_over, wheel(one), wheel(other))
            self.assertEqual(len(pairs), 26)
            self.assertEqual(len(rule[2]), 26)
            self.assertEqual(pairs[-1][0], "z")
        for one, other, many in ((2, 13, 27), (13, 2, 27), (3, 9, 10), (4, 7, 29), (25, 24, 601), (24, 25, 601),
                                 (23, 24, 553), (14, 4, 29), (3, 25, 76)):
            if many <= 26:
                self.assertEqual(len(self.told(laid_over, wheel(one), wheel(other))[2]), many)
            else:
                self.too_great(many, 26, laid_over, wheel(one), wheel(other))

    def test_the_greatest_rules(self):
        other = (still_rule(4, 4, ALPHABET, 9), "a", paint_of(GREAT_STILL, "x"))
        for painted in GREAT:
            self.too_great(len(reached_pairs(painted, other)), 26, laid_over, painted, other)
        self.assertGreater(len(reached_pairs(GREAT[0], other)), 600)
        rule, tile, pairs = self.told(laid_over, GREAT[0], GREAT[0])
        self.assertEqual(len(pairs), 26)


class TakenSignsTest(Asker):
    def test_ordinary_rules(self):
        paint = (("a", "x"), ("b", "y"), ("c", "z"))
        self.assertEqual(self.told(taken_signs, CHESS, paint, 0, 0), (("a", "x"), ("b", "z"), ("c", "z")))
        self.assertEqual(self.told(taken_signs, CHESS, paint, 0, 1), (("a", "y"), ("b", "z"), ("c", "x")))
        self.assertEqual(self.told(taken_signs, CHESS, paint, 1, 0), (("a", "y"), ("b", "x"), ("c", "y")))
        self.assertEqual(self.told(taken_signs, CHESS, paint, 1, 1), (("a", "x"), ("b", "y"), ("c", "y")))

    def test_at_every_row_and_column(self):
        for rule, tile, paint in PAINTED + GREAT:
            for i, j in itertools.product(range(rule[0]), range(rule[1])):
                taken = self.told(taken_signs, rule, paint, i, j)
                self.assertTrue(paint_good(rule, taken))
                for row, column in ((0, 0), (1, 2), (7, 5), (10 ** 20, 10 ** 21)):
                    row, column = (0 if rule[0] == 1 else row), (0 if rule[1] == 1 else column)
                    self.assertEqual(sign_at((rule, tile, taken), row, column),
                                     sign_at((rule, tile, paint), rule[0] * row + i, rule[1] * column + j))

    def test_no_place(self):
        for rule in (CHESS, STRIPE, TOWER, FLAT, GREAT_STILL):
            paint = own_paint(rule)
            for thing in odd_numbers(0, rule[0] - 1) + [rule[0], -1, True, False, None, "0"]:
                self.refused(NoPlace, taken_signs, rule, paint, thing, 0)
                self.refused(NoPlace, taken_signs, rule, paint, thing, thing)
            for thing in odd_numbers(0, rule[1] - 1) + [rule[1], -1, True, False, None, "0"]:
                self.refused(NoPlace, taken_signs, rule, paint, 0, thing)


class TurnedPaintTest(Asker):
    def test_ordinary_floors(self):
        self.assertEqual(self.told(turned_paint, MORSE),
                         ((2, 1, (("a", ("a", "b")), ("b", ("b", "a")))), "a", (("a", "x"), ("b", "y"))))

    def test_signs_change_their_rows_with_their_columns(self):
        for painted in PAINTED + GREAT:
            turned = self.told(turned_paint, painted)
            self.assertEqual(turned, (turned_rule(painted[0]), painted[1], painted[2]))
            self.assertEqual(self.told(turned_paint, turned), painted)
            for row, column in ((0, 0), (3, 4), (10 ** 30, 10 ** 39)):
                row, column = (0 if painted[0][0] == 1 else row), (0 if painted[0][1] == 1 else column)
                self.assertEqual(sign_at(turned, column, row), sign_at(painted, row, column))


class ConsequencesTest(Asker):
    def test_what_is_least_is_least_of_itself(self):
        for painted in PAINTED + GREAT:
            least = least_floor(painted)
            self.assertEqual(self.told(least_floor, least), least)
            self.yes(least_holds, least, least)

    def test_the_same_signs_just_where_the_least_ones_are_the_same(self):
        met = set()
        for one, other in itertools.product(PAINTED, PAINTED):
            if one[0][:2] == other[0][:2]:
                alike = first_unlike(one, other) is None
                self.assertEqual(least_floor(one) == least_floor(other), alike)
                self.assertEqual(alike_of(one, other) is not None, alike)
                self.assertIs(least_holds(one, least_floor(other)), alike)
                met.add((alike, one == other))
        self.assertEqual(met, {(True, True), (True, False), (False, False)})

    def test_laid_over_itself_it_has_as_many_tiles_as_come(self):
        for rule, tile, paint in PAINTED + GREAT:
            over, first, pairs = self.told(laid_over, (rule, tile, paint), (rule, tile, paint))
            coming = names_by_hand(rule, tile)
            self.assertEqual([(one, other) for name, one, other in pairs], [(own, own) for own in coming])

    def test_of_least_ones_turned_the_least_is_the_turned_one_named_anew(self):
        for painted in PAINTED:
            self.assertEqual(least_floor(turned_paint(least_floor(painted))), least_floor(turned_paint(painted)))


class SameAnswerTest(Asker):
    def test_whatever_was_asked_in_between(self):
        paint = own_paint(CHESS)
        questions = [
            (alike_tiles, CHESS, paint), (alike_tiles, CHESS, paint_of(CHESS, "x")), (least_floor, (CHESS, "c", paint)),
            (least_holds, (CHESS, "c", paint), (CHESS, "c", paint)), (laid_over, MORSE, MORSE),
            (taken_signs, CHESS, paint, 1, 0), (turned_paint, MORSE), (least_floor, MORSE),
        ]
        before = copy.deepcopy(questions)
        first = [asked(*handed) for asked, *handed in questions]
        again = [asked(*handed) for asked, *handed in reversed(questions)]
        self.assertEqual(again, first[::-1])
        self.assertEqual(questions, before)

    def test_the_list_of_groups_is_the_askers_own(self):
        told = alike_tiles(CHESS, own_paint(CHESS))
        told.clear()
        self.assertEqual(alike_tiles(CHESS, own_paint(CHESS)), [("a",), ("b",), ("c",)])


if __name__ == "__main__":
    unittest.main()
