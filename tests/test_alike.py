"""8.1 to 8.6: two rules of one floor, and 0.2, 0.3, 0.4 as far as they speak of them."""

import copy
import itertools
import random
import unittest

from samples import (
    ALPHABET, CHESS, FLAT, GREAT_RULES, LONELY, MANY_RULES, PARTED, SIZES, STRIPE, TOWER, TURNS, Asker, even_rule,
    laid_far, laid_sizes, odd_numbers, odd_things, own_paint, paint_of, signs_laid, still_rule, stills_of,
    tile_by_hand, tiles_of,
)
from tilegrow.alike import (
    alike_holds, alike_of, common_power, first_unlike, paint_good, sign_at, still_at, still_cut,
)
from tilegrow.errors import FloorError, NoPlace, NoTile, Unlike
from tilegrow.families import still_tiles
from tilegrow.far import cut_far, tile_far
from tilegrow.floors import floor_good
from tilegrow.rules import joined_rule, mirrored_rule, rule_good, turned_rule

FAR = 10 ** 40
GREAT_STILL = still_rule(4, 4, ALPHABET, 3)
STILL_RULES = [
    still_rule(high, wide, ALPHABET[:many], 10 * high + wide + many) for high, wide in SIZES for many in (1, 2, 3, 5)
]
SEVERAL = MANY_RULES + GREAT_RULES + STILL_RULES + [GREAT_STILL]

# A row of as and bs whose sign at a place tells whether it has an even number of ones, by blocks of 2 and of 4.
MORSE = ((1, 2, (("a", ("ab",)), ("b", ("ba",)))), "a", (("a", "x"), ("b", "y")))
MORSE_BY_FOUR = ((1, 4, (("p", ("pqqp",)), ("q", ("qppq",)))), "p", (("p", "x"), ("q", "y")))


def far_places(rule):
    lines = [0, 1, 63, 64, 10 ** 20, FAR // 3, FAR - 2, FAR - 1]
    rows = [0] if rule[0] == 1 else lines
    columns = [0] if rule[1] == 1 else lines
    return list(itertools.product(rows, columns))


class StillAtTest(Asker):
    def test_ordinary_places(self):
        self.assertEqual([still_at(STRIPE, "a", 0, column) for column in range(8)], list("abbabaab"))
        self.assertEqual([still_at(STRIPE, "b", 0, column) for column in range(8)], list("baababba"))
        self.assertEqual(self.told(still_at, CHESS, "a", 0, 2), "c")
        self.assertEqual(self.told(still_at, CHESS, "c", 1, 1), "b")
        self.assertEqual([still_at(TOWER, "a", row, 0) for row in range(9)], list("abcccabaa"))

    def test_against_laid_floors(self):
        for rule in SEVERAL:
            for tile in stills_of(rule)[:4]:
                floor = laid_far(rule, tile, laid_sizes(rule, 300)[-1])
                for row, tiles in enumerate(floor):
                    for column, expected in enumerate(tiles):
                        self.assertEqual(still_at(rule, tile, row, column), expected)

    def test_far_places(self):
        for rule in SEVERAL:
            for tile in stills_of(rule)[:2]:
                for row, column in far_places(rule):
                    self.assertEqual(self.told(still_at, rule, tile, row, column),
                                     tile_by_hand(rule, tile, row, column))

    def test_as_far_floors_have_it(self):
        for rule in (CHESS, STRIPE, TOWER, FLAT, GREAT_STILL):
            for tile in stills_of(rule):
                row, column = rule[0] ** 60 // 7, rule[1] ** 60 // 5
                if row < FAR and column < FAR:
                    self.assertEqual(still_at(rule, tile, row, column), tile_far(rule, tile, 60, row, column))

    def test_one_row_and_one_column(self):
        rule = (1, 3, (("a", ("aba",)), ("b", ("bbc",)), ("c", ("acc",))))
        turned = turned_rule(rule)
        for place in (0, 1, 8, 3 ** 30, FAR - 1):
            expected = tile_by_hand(rule, "a", 0, place)
            self.assertEqual(self.told(still_at, rule, "a", 0, place), expected)
            self.assertEqual(self.told(still_at, turned, "a", place, 0), expected)
        for beyond in (1, 2, 64, FAR - 1, FAR):
            self.refused(NoPlace, still_at, rule, "a", beyond, 0)
            self.refused(NoPlace, still_at, turned, "a", 0, beyond)

    def test_no_tile(self):
        for asked, tail in ((still_at, (0, 0)), (still_cut, (0, 0, 1, 1))):
            for thing in odd_things() + ["b", "d", "z", "ac", ("a",), ["a"], {"a": "a"}]:
                self.no_tile(thing, asked, CHESS, thing, *tail)
            for tile in "abc":
                self.no_tile(tile, asked, TURNS, tile, *tail)

    def test_no_place(self):
        for thing in odd_numbers(0, FAR - 1) + [FAR, FAR + 1, -1, True, False, None, "0", "1"]:
            self.refused(NoPlace, still_at, CHESS, "a", thing, 0)
            self.refused(NoPlace, still_at, CHESS, "a", 0, thing)
            self.refused(NoPlace, still_at, CHESS, "c", thing, thing)
            self.refused(NoPlace, still_cut, CHESS, "a", thing, 0, 2, 3)
            self.refused(NoPlace, still_cut, CHESS, "a", 0, thing, 2, 3)
        for thing in odd_numbers(0, 0):
            self.refused(NoPlace, still_at, STRIPE, "a", thing, 0)
            self.refused(NoPlace, still_at, TOWER, "a", 0, thing)
            self.refused(NoPlace, still_cut, STRIPE, "a", thing, 0, 1, 3)
            self.refused(NoPlace, still_cut, TOWER, "a", 0, thing, 3, 1)

    def test_the_order_where_both_are_due(self):
        for thing in odd_things() + ["b"]:
            self.no_tile(thing, still_at, CHESS, thing, -1, None)
            self.no_tile(thing, still_at, CHESS, thing, FAR, FAR)
            self.no_tile(thing, still_cut, CHESS, thing, -1, None, 1, 1)
            self.no_tile(thing, still_cut, CHESS, thing, FAR, FAR, 64, 64)
        for thing in odd_things() + ["d"]:
            self.no_tile(thing, still_at, STRIPE, thing, 1, 0)
            self.no_tile(thing, still_cut, STRIPE, thing, 0, 0, 2, 1)


class StillCutTest(Asker):
    def test_against_laid_floors(self):
        for rule in SEVERAL:
            for tile in stills_of(rule)[:2]:
                floor = laid_far(rule, tile, laid_sizes(rule, 300)[-1])
                rows, columns = len(floor), len(floor[0])
                for row, column in itertools.product({0, rows // 2, rows - 1}, {0, columns // 2, columns - 1}):
                    for high, wide in itertools.product({1, 2, rows - row}, {1, 3, columns - column}):
                        if row + high <= rows and column + wide <= columns and high <= 64 and wide <= 64:
                            cut = still_cut(rule, tile, row, column, high, wide)
                            expected = tuple(tiles[column:column + wide] for tiles in floor[row:row + high])
                            self.assertEqual(cut, expected)

    def test_the_greatest_cuts(self):
        for rule in (CHESS, FLAT, GREAT_STILL, STRIPE, TOWER):
            high = 1 if rule[0] == 1 else 64
            wide = 1 if rule[1] == 1 else 64
            for row, column in far_places(rule):
                cut = self.told(still_cut, rule, "a", row, column, high, wide)
                self.assertTrue(floor_good(cut))
                self.assertEqual((len(cut), len(cut[0])), (high, wide))
                for down, right in itertools.product({0, high // 3, high - 1}, {0, wide // 5, wide - 1}):
                    self.assertEqual(cut[down][right], tile_by_hand(rule, "a", row + down, column + right))

    def test_beyond_ten_to_the_forty(self):
        for rule in (CHESS, FLAT, GREAT_STILL):
            cut = self.told(still_cut, rule, "a", FAR - 1, FAR - 1, 64, 64)
            self.assertEqual(cut, tuple(
                "".join(tile_by_hand(rule, "a", FAR - 1 + down, FAR - 1 + right) for right in range(64))
                for down in range(64)
            ))
        self.refused(NoPlace, still_cut, CHESS, "a", FAR, 0, 1, 1)
        self.refused(NoPlace, still_cut, CHESS, "a", 0, FAR, 1, 1)
        row = self.told(still_cut, STRIPE, "a", 0, FAR - 1, 1, 64)
        self.assertEqual(row, ("".join(tile_by_hand(STRIPE, "a", 0, FAR - 1 + right) for right in range(64)),))
        column = self.told(still_cut, TOWER, "a", FAR - 1, 0, 64, 1)
        self.assertEqual(column, tuple(tile_by_hand(TOWER, "a", FAR - 1 + down, 0) for down in range(64)))

    def test_where_a_cut_needs_more_growings_than_its_first_place(self):
        for place in (1, 2, 3, 4, 7, 8, 31, 2 ** 60 - 1, 2 ** 60):
            cut = self.told(still_cut, CHESS, "a", place, place, 2, 2)
            self.assertEqual(cut, tuple(
                "".join(tile_by_hand(CHESS, "a", place + down, place + right) for right in range(2))
                for down in range(2)
            ))

    def test_cuts_that_do_not_lie_in_the_still_floor(self):
        for size in (2, 3, 64):
            self.refused(NoPlace, still_cut, STRIPE, "a", 0, 0, size, 1)
            self.refused(NoPlace, still_cut, STRIPE, "a", 0, FAR - 1, size, 64)
            self.refused(NoPlace, still_cut, TOWER, "a", 0, 0, 1, size)
            self.refused(NoPlace, still_cut, TOWER, "a", FAR - 1, 0, 64, size)

    def test_as_cut_far_has_it(self):
        for rule in (CHESS, FLAT, GREAT_STILL):
            for tile in stills_of(rule)[:3]:
                self.assertEqual(still_cut(rule, tile, 10 ** 15, 10 ** 16, 40, 64),
                                 cut_far(rule, tile, 60, 10 ** 15, 10 ** 16, 40, 64))


class PaintTest(Asker):
    PAINT = (("a", "x"), ("b", "y"), ("c", "x"))

    def test_paints(self):
        self.yes(paint_good, CHESS, self.PAINT)
        self.yes(paint_good, CHESS, (("a", "a"), ("b", "a"), ("c", "a")))
        self.yes(paint_good, even_rule(2, 2), (("a", "z"),))
        self.yes(paint_good, PARTED, own_paint(PARTED))
        for rule in SEVERAL:
            self.yes(paint_good, rule, own_paint(rule))
            self.yes(paint_good, rule, paint_of(rule, "xyz"))
            self.no(paint_good, rule, own_paint(rule)[1:])
            self.no(paint_good, rule, own_paint(rule) + own_paint(rule)[:1])

    def test_what_is_amiss(self):
        a, b, c = self.PAINT
        for thing in (
            (a, b), (b, c), (a, c), (a, b, c, c), (a, a, b, c), (a, a, c), (a, c, b), (c, b, a), (a, b, ("d", "x")),
            (("a", "x"), ("b", "y"), ("b", "x")), (a, b, c, ("d", "x")), (("A", "x"), b, c), (("", "x"), b, c),
            (("a", "xy"), b, c), (("a", "X"), b, c), (("a", ""), b, c), (("a", " "), b, c), (("a", "1"), b, c),
            (("a", "x", "x"), b, c), (("a",), b, c), ((), b, c), ("ax", "by", "cx"), (["a", "x"], b, c),
            [a, b, c], [list(a), list(b), list(c)], dict(self.PAINT), (a, b, list(c)), (self.PAINT,), self.PAINT * 2,
            (("a", ("x",)), b, c), (("a", ["x"]), b, c), (("a", None), b, c), ((("a",), "x"), b, c),
        ):
            self.no(paint_good, CHESS, thing)

    def test_whatever_is_handed_in(self):
        a, b, c = self.PAINT
        for thing in odd_things():
            self.no(paint_good, CHESS, thing)
            self.no(paint_good, even_rule(2, 2), thing)
            self.no(paint_good, CHESS, (a, b, thing))
            self.no(paint_good, CHESS, (thing, thing, thing))
            self.no(paint_good, CHESS, (a, (thing, "x"), c))
            self.no(paint_good, CHESS, (a, ("b", thing), c))
            self.no(paint_good, CHESS, (a, b, c, thing))

    def test_sign_at(self):
        painted = (CHESS, "a", self.PAINT)
        self.assertEqual("".join(sign_at(painted, 0, column) for column in range(4)), "xyxx")
        for rule in SEVERAL:
            paint = paint_of(rule, "pqr")
            for tile in stills_of(rule)[:2]:
                for row, column in far_places(rule):
                    expected = dict(paint)[tile_by_hand(rule, tile, row, column)]
                    self.assertEqual(self.told(sign_at, (rule, tile, paint), row, column), expected)

    def test_sign_at_refused(self):
        painted = (CHESS, "a", self.PAINT)
        for thing in odd_numbers(0, FAR - 1) + [FAR]:
            self.refused(NoPlace, sign_at, painted, thing, 0)
            self.refused(NoPlace, sign_at, painted, 0, thing)
        for thing in odd_numbers(0, 0):
            self.refused(NoPlace, sign_at, (STRIPE, "a", own_paint(STRIPE)), thing, 5)
            self.refused(NoPlace, sign_at, (TOWER, "a", own_paint(TOWER)), 5, thing)


class CommonPowerTest(Asker):
    def test_the_same_sizes(self):
        for high, wide in SIZES:
            self.assertEqual(self.told(common_power, even_rule(high, wide), still_rule(high, wide, "ab", 1)), (1, 1))

    def test_one_the_square_of_the_other(self):
        for high, wide in ((2, 2), (1, 2), (2, 1)):
            lesser, greater = even_rule(high, wide), even_rule(high * high, wide * wide)
            self.assertEqual(self.told(common_power, lesser, greater), (2, 1))
            self.assertEqual(self.told(common_power, greater, lesser), (1, 2))

    def test_all_sizes_against_all(self):
        for one, other in itertools.product(SIZES, SIZES):
            expected = None
            for power, other_power in itertools.product(range(1, 9), range(1, 9)):
                sizes = (one[0] ** power, one[1] ** power)
                if expected is None and sizes == (other[0] ** other_power, other[1] ** other_power):
                    expected = (power, other_power)
            self.assertEqual(self.told(common_power, even_rule(*one), even_rule(*other)), expected)

    def test_none(self):
        for one, other in (((2, 2), (3, 3)), ((2, 2), (2, 4)), ((1, 2), (2, 1)), ((1, 2), (2, 2)), ((2, 4), (4, 2)),
                           ((1, 2), (1, 3)), ((1, 4), (4, 4)), ((2, 1), (3, 1)), ((2, 2), (4, 2)), ((3, 3), (4, 4))):
            first, second = even_rule(*one), even_rule(*other)
            self.assertIsNone(self.told(common_power, first, second))
            painted, against = (first, "a", (("a", "x"),)), (second, "a", (("a", "x"),))
            for asked in (first_unlike, alike_of):
                self.refused(Unlike, asked, painted, against)
                self.refused(Unlike, asked, against, painted)
            self.refused(Unlike, alike_holds, painted, against, (("a", "a"),))

    def test_unlike_whatever_the_paper_is(self):
        painted, against = (CHESS, "a", own_paint(CHESS)), (FLAT, "a", own_paint(FLAT))
        for thing in odd_things():
            self.refused(Unlike, alike_holds, painted, against, thing)

    def test_unlike_ahead_of_signs_that_are(self):
        painted, against = (CHESS, "a", paint_of(CHESS, "x")), (FLAT, "a", paint_of(FLAT, "y"))
        self.refused(Unlike, first_unlike, painted, against)
        self.refused(Unlike, alike_of, painted, against)


def common_sizes(painted, other):
    """By hand: how many growings of the one are as many of the other, by blocks of one size."""
    for power, other_power in ((1, 1), (1, 2), (2, 1)):
        if [size ** power for size in painted[0][:2]] == [size ** other_power for size in other[0][:2]]:
            return (power, other_power)
    return None


def unlike_by_hand(painted, other, most):
    """8.4 on laid floors of at most so many tiles: the place; None where they are alike as far as laid."""
    power, other_power = common_sizes(painted, other)
    growings = 0
    while (painted[0][0] * painted[0][1]) ** (power * growings) <= most:
        one = signs_laid(painted, power * growings)
        two = signs_laid(other, other_power * growings)
        for row, signs in enumerate(one):
            for column, sign in enumerate(signs):
                if two[row][column] != sign:
                    return (row, column)
        growings += 1
    return None


def paper_by_hand(painted, other, thing):
    """8.5 word by word, of a tuple of tuples of two tiles."""
    power, other_power = common_sizes(painted, other)
    if list(thing) != sorted(set(thing)) or (painted[1], other[1]) not in thing:
        return False
    for one, two in thing:
        if one not in tiles_of(painted[0]) or two not in tiles_of(other[0]):
            return False
        if dict(painted[2])[one] != dict(other[2])[two]:
            return False
        floor, against = laid_far(painted[0], one, power), laid_far(other[0], two, other_power)
        for tiles, facing in zip(floor, against):
            if any(pair not in thing for pair in zip(tiles, facing)):
                return False
    return True


def painted_floors():
    """Painted floors of few tiles and signs: many of them are alike for a while, or for ever."""
    found = [MORSE, MORSE_BY_FOUR]
    for number, (high, wide) in enumerate(SIZES):
        for many, signs in ((1, "x"), (2, "xy"), (3, "xxy"), (4, "xyxx"), (5, "xxxxy"), (3, "xyz")):
            for seed in (0, 1):
                rule = still_rule(high, wide, ALPHABET[:many], 7 * number + many + 100 * seed)
                found.append((rule, ALPHABET[seed % many], paint_of(rule, signs)))
    return found


PAINTED = painted_floors()
MEETING = [
    (one, other) for one, other in itertools.product(PAINTED, PAINTED) if common_sizes(one, other) is not None
]


def line_of_turns(high, wide, signs):
    """From a, at the block's last place, a wheel of as many tiles as signs, each laying the next one alone."""
    tiles = ALPHABET[1:len(signs) + 1]
    first = ("a" * wide,) * (high - 1) + ("a" * (wide - 1) + "b",)
    blocks = [("a", first)] + [
        (tile, (after * wide,) * high) for tile, after in zip(tiles, tiles[1:] + tiles[0])
    ]
    return ((high, wide, tuple(blocks)), "a", (("a", "x"),) + tuple(zip(tiles, signs)))


class FirstUnlikeTest(Asker):
    def test_ordinary_floors(self):
        stripe = (STRIPE, "a", (("a", "x"), ("b", "y"), ("c", "y")))
        self.assertIsNone(self.told(first_unlike, stripe, MORSE))
        self.assertEqual(self.told(first_unlike, stripe, (STRIPE, "b", stripe[2])), (0, 0))
        self.assertEqual(self.told(first_unlike, (STRIPE, "a", own_paint(STRIPE)), MORSE), (0, 0))
        all_alike = (even_rule(1, 2), "a", (("a", "x"),))
        self.assertEqual(self.told(first_unlike, MORSE, all_alike), (0, 1))
        self.assertEqual(self.told(first_unlike, all_alike, MORSE), (0, 1))

    def test_the_least_number_of_growings_goes_ahead_of_the_first_place(self):
        # After one growing they are unlike at (1, 1) alone, after two also at (0, 2), which is ahead of it.
        rule = (2, 2, (("a", ("ab", "ac")), ("b", ("cb", "bb")), ("c", ("cc", "cc"))))
        other = (2, 2, (("a", ("ab", "aa")), ("b", ("bb", "bb"))))
        painted = (rule, "a", (("a", "x"), ("b", "x"), ("c", "y")))
        against = (other, "a", (("a", "x"), ("b", "x")))
        self.assertEqual(unlike_by_hand(painted, against, 20), (1, 1))
        self.assertEqual(sign_at(painted, 0, 2), "y")
        self.assertEqual(self.told(first_unlike, painted, against), (1, 1))
        self.assertEqual(self.told(first_unlike, against, painted), (1, 1))

    def test_by_blocks_of_the_common_size(self):
        by_two, by_four = (even_rule(2, 2), "a", (("a", "x"),)), (even_rule(4, 4), "a", (("a", "x"),))
        for corner, place in ((("aa", "ba"), (1, 0)), (("ab", "aa"), (0, 1)), (("aa", "ab"), (1, 1))):
            rule = (2, 2, (("a", corner), ("b", ("bb", "bb"))))
            painted = (rule, "a", (("a", "x"), ("b", "y")))
            self.assertEqual(unlike_by_hand(painted, by_four, 300), place)
            for other in (by_two, by_four):
                self.assertEqual(self.told(first_unlike, painted, other), place)
                self.assertEqual(self.told(first_unlike, other, painted), place)

    def test_by_blocks_of_four_a_place_of_the_second_growing_may_go_ahead(self):
        # By blocks of 2 it is unlike at (1, 1) first; by those of 4 both growings are one, and (0, 2) is ahead.
        rule = (2, 2, (("a", ("ab", "bc")), ("b", ("cb", "bb")), ("c", ("cc", "cc"))))
        painted = (rule, "a", (("a", "x"), ("b", "x"), ("c", "y")))
        by_two, by_four = (even_rule(2, 2), "a", (("a", "x"),)), (even_rule(4, 4), "a", (("a", "x"),))
        self.assertEqual(self.told(first_unlike, painted, by_two), (1, 1))
        self.assertEqual(self.told(first_unlike, painted, by_four), (0, 2))
        self.assertEqual(self.told(first_unlike, by_four, painted), (0, 2))

    def test_against_laid_floors(self):
        met = set()
        for one, other in MEETING:
            told = first_unlike(one, other)
            laid = unlike_by_hand(one, other, 300)
            if laid is not None:
                self.assertEqual(told, laid)
            elif told is not None:
                self.assertNotEqual(sign_at(one, *told), sign_at(other, *told))
            met.add((laid is None, told is None, common_sizes(one, other)))
        for power in ((1, 1), (1, 2), (2, 1)):
            self.assertIn((False, False, power), met)
            self.assertIn((True, True, power), met)

    def test_late_places(self):
        for high, wide in SIZES:
            one = line_of_turns(high, wide, "x" * 23 + "y")
            other = line_of_turns(high, wide, "x" * 23 + "yx")
            # Signs that come again after 24 and after 25 growings can be alike 47 times, not more.
            expected = ((high - 1) * high ** 47, (wide - 1) * wide ** 47)
            self.assertEqual(self.told(first_unlike, one, other), expected)
            self.assertEqual(self.told(first_unlike, other, one), expected)
            self.assertEqual({sign_at(one, *expected), sign_at(other, *expected)}, {"x", "y"})

    def test_late_places_by_the_common_size(self):
        one = line_of_turns(2, 2, "xxxxxxxxxxxxxxxxxxxxxxxxy")
        other = (even_rule(4, 4), "a", (("a", "x"),))
        # The wheel's last sign comes after 25 growings: in the 13th one by blocks of 4, which has 26.
        told = self.told(first_unlike, one, other)
        self.assertEqual(told, (2 ** 24, 2 ** 24))
        self.assertEqual(sign_at(one, *told), "y")

    def test_the_greatest_rules(self):
        for seed in range(4):
            rule = still_rule(4, 4, ALPHABET, seed)
            paint = paint_of(rule, "xxxxxxxxxxxxxxxxxxxxxxxxxy")
            for one, other in (("a", "b"), ("c", "z"), ("d", "d")):
                told = self.told(first_unlike, (rule, one, paint), (rule, other, paint))
                if one == other:
                    self.assertIsNone(told)
                elif told is None:
                    self.assertTrue(alike_of((rule, one, paint), (rule, other, paint)))
                else:
                    self.assertEqual(told, unlike_by_hand((rule, one, paint), (rule, other, paint), 70000))


class AlikePaperTest(Asker):
    def test_ordinary_floors(self):
        self.assertEqual(self.told(alike_of, MORSE, MORSE), (("a", "a"), ("b", "b")))
        self.assertEqual(self.told(alike_of, MORSE, MORSE_BY_FOUR), (("a", "p"), ("b", "q")))
        self.assertEqual(self.told(alike_of, MORSE_BY_FOUR, MORSE), (("p", "a"), ("q", "b")))
        self.assertIsNone(self.told(alike_of, MORSE, (MORSE[0], "b", MORSE[2])))
        turned_about = (MORSE[0], "b", (("a", "y"), ("b", "x")))
        self.assertEqual(self.told(alike_of, MORSE, turned_about), (("a", "b"), ("b", "a")))

    def test_of_as_few_as_can_be(self):
        met = set()
        for one, other in MEETING:
            paper = alike_of(one, other)
            met.add(paper is None)
            if paper is None:
                self.assertIsNotNone(first_unlike(one, other))
            else:
                self.assertIsNone(first_unlike(one, other))
                self.assertTrue(paper_by_hand(one, other, paper))
                self.yes(alike_holds, one, other, paper)
                for number in range(len(paper)):
                    lesser = paper[:number] + paper[number + 1:]
                    self.assertFalse(paper_by_hand(one, other, lesser))
                    self.no(alike_holds, one, other, lesser)
        self.assertEqual(met, {True, False})

    def test_papers_with_more_than_need_be(self):
        doubled = ((1, 2, (("a", ("ab",)), ("b", ("ba",)), ("c", ("cd",)), ("d", ("dc",)), ("e", ("aa",)))), "a",
                   (("a", "x"), ("b", "y"), ("c", "x"), ("d", "y"), ("e", "x")))
        self.yes(alike_holds, doubled, doubled, (("a", "a"), ("b", "b"), ("c", "c"), ("d", "d")))
        self.yes(alike_holds, doubled, doubled, (("a", "a"), ("a", "c"), ("b", "b"), ("b", "d")))
        self.no(alike_holds, doubled, doubled, (("a", "a"), ("a", "c"), ("b", "b")))
        self.no(alike_holds, doubled, doubled, (("a", "c"), ("b", "d")))
        self.no(alike_holds, doubled, doubled, (("a", "a"), ("b", "b"), ("c", "e")))
        self.yes(alike_holds, doubled, (doubled[0], "c", doubled[2]), (("a", "c"), ("b", "d")))

    def test_against_the_words_of_the_document(self):
        source = random.Random(8)
        met = []
        for one, other in MEETING[::3]:
            every = list(itertools.product(tiles_of(one[0]), tiles_of(other[0])))
            told = alike_of(one, other)
            for time in range(4):
                thing = set(source.sample(every, source.randint(0, len(every))))
                if told is not None and time > 0:
                    thing |= set(told)
                thing = tuple(sorted(thing))
                expected = paper_by_hand(one, other, thing)
                met.append(expected)
                self.assertIs(alike_holds(one, other, thing), expected)
        self.assertTrue(any(met) and not all(met))

    def test_what_is_amiss(self):
        a, b = ("a", "p"), ("b", "q")
        self.yes(alike_holds, MORSE, MORSE_BY_FOUR, (a, b))
        for thing in (
            (a,), (b,), (), (b, a), (a, a, b), (a, b, b), (a, ("a", "q"), b), (a, b, ("b", "r")), (a, b, ("c", "p")),
            (("p", "a"), ("q", "b")), [a, b], [list(a), list(b)], (list(a), list(b)), (a, list(b)), ("ap", "bq"),
            (a, b, ("b", "p")), (a, ("b", "p")), (("a", "p", "p"), b), (("a",), b), (a, b, ()), ((a, b),),
            {"a": "p", "b": "q"}, (a, b, ("z", "z")), (a, ("b", "q "), b), (a, b, None), (("", "p"), a, b),
            (a, b, ("bb", "q")), (a, b, ("b", "qq")),
        ):
            self.no(alike_holds, MORSE, MORSE_BY_FOUR, thing)

    def test_whatever_is_handed_in(self):
        a, b = ("a", "p"), ("b", "q")
        for thing in odd_things():
            self.no(alike_holds, MORSE, MORSE_BY_FOUR, thing)
            self.no(alike_holds, MORSE, MORSE_BY_FOUR, (thing,))
            self.no(alike_holds, MORSE, MORSE_BY_FOUR, (a, b, thing))
            self.no(alike_holds, MORSE, MORSE_BY_FOUR, (thing, a, b))
            self.no(alike_holds, MORSE, MORSE_BY_FOUR, (a, b, (thing, "q")))
            self.no(alike_holds, MORSE, MORSE_BY_FOUR, (a, b, ("b", thing)))
            self.no(alike_holds, MORSE, MORSE_BY_FOUR, (a, b, (thing, thing)))
            self.no(alike_holds, MORSE, MORSE_BY_FOUR, ((thing, "p"), b))

    def test_none_holds_where_they_are_unlike(self):
        other = (MORSE[0], "a", (("a", "x"), ("b", "z")))
        every = list(itertools.product("ab", "ab"))
        for many in range(5):
            for thing in itertools.combinations(every, many):
                self.no(alike_holds, MORSE, other, thing)

    def test_the_greatest_paper_there_is(self):
        rule, other = GREAT_STILL, still_rule(4, 4, ALPHABET, 9)
        one, two = (rule, "a", paint_of(rule, "x")), (other, "a", paint_of(other, "x"))
        every = tuple(itertools.product(ALPHABET, ALPHABET))
        paper = self.told(alike_of, one, two)
        self.assertTrue(paper_by_hand(one, two, paper))
        self.assertGreater(len(paper), 600)
        self.yes(alike_holds, one, two, every)
        self.yes(alike_holds, one, two, paper)
        self.no(alike_holds, one, two, every[1:])
        self.assertIsNone(self.told(first_unlike, one, two))


class ConsequencesTest(Asker):
    def test_a_place_or_a_paper_never_both(self):
        for one, other in MEETING:
            self.assertNotEqual(first_unlike(one, other) is None, alike_of(one, other) is None)

    def test_whoever_made_the_paper(self):
        for one, other in MEETING[::5]:
            every = tuple(itertools.product(tiles_of(one[0]), tiles_of(other[0])))
            like = tuple(pair for pair in every if dict(one[2])[pair[0]] == dict(other[2])[pair[1]])
            for thing in (every, like, every[:1], like[:4]):
                if alike_holds(one, other, thing):
                    self.assertIsNone(first_unlike(one, other))

    def test_each_is_alike_with_itself(self):
        for painted in PAINTED + [(GREAT_STILL, "q", own_paint(GREAT_STILL))]:
            self.assertIsNone(self.told(first_unlike, painted, painted))
            paper = self.told(alike_of, painted, painted)
            self.yes(alike_holds, painted, painted, paper)
            self.assertTrue(all(one == other for one, other in paper))
            every = tuple((tile, tile) for tile in tiles_of(painted[0]))
            self.yes(alike_holds, painted, painted, every)

    def test_what_is_alike_with_one_alike_is_alike(self):
        alike = {}
        for number, one in enumerate(PAINTED):
            for place, other in enumerate(PAINTED):
                if common_sizes(one, other) is not None and first_unlike(one, other) is None:
                    alike.setdefault(number, []).append(place)
        for number, places in alike.items():
            for place in places:
                self.assertIn(number, alike[place])
                for further in alike[place]:
                    if common_sizes(PAINTED[number], PAINTED[further]) is not None:
                        self.assertIn(further, places)

    def test_with_that_of_its_rule_joined_with_itself(self):
        joined = 0
        for rule, tile, paint in PAINTED + [(STRIPE, "c", own_paint(STRIPE)), (CHESS, "c", own_paint(CHESS)),
                                            (LONELY, "c", own_paint(LONELY)), (PARTED, "b", own_paint(PARTED))]:
            try:
                twice = joined_rule(rule, rule)
            except FloorError:
                continue
            joined += 1
            self.assertTrue(rule_good(twice))
            self.assertIn(tile, still_tiles(twice))
            one, other = (rule, tile, paint), (twice, tile, paint)
            self.assertEqual(common_power(rule, twice), (2, 1))
            for first, second in ((one, other), (other, one)):
                self.assertIsNone(self.told(first_unlike, first, second))
                self.yes(alike_holds, first, second, self.told(alike_of, first, second))
        self.assertGreater(joined, 20)

    def test_turned_about_all_is_turned(self):
        for one, other in MEETING[::4]:
            paper, back = alike_of(one, other), alike_of(other, one)
            self.assertEqual(first_unlike(one, other), first_unlike(other, one))
            if paper is not None:
                self.assertEqual(tuple(sorted((two, first) for first, two in paper)), back)


class SameAnswerTest(Asker):
    def test_whatever_was_asked_in_between(self):
        paint = own_paint(CHESS)
        questions = [
            (still_at, CHESS, "a", 10 ** 39, 5), (still_cut, CHESS, "c", 3, FAR - 1, 4, 9), (paint_good, CHESS, paint),
            (sign_at, (CHESS, "a", paint), 8, 8), (common_power, CHESS, FLAT), (common_power, CHESS, CHESS),
            (first_unlike, (CHESS, "a", paint), (CHESS, "c", paint)), (alike_of, MORSE, MORSE_BY_FOUR),
            (alike_holds, MORSE, MORSE_BY_FOUR, (("a", "p"), ("b", "q"))), (first_unlike, MORSE, MORSE_BY_FOUR),
        ]
        before = copy.deepcopy(questions)
        first = [asked(*handed) for asked, *handed in questions]
        again = [asked(*handed) for asked, *handed in reversed(questions)]
        self.assertEqual(again, first[::-1])
        self.assertEqual(questions, before)

    def test_mirrored_rules_have_still_floors_of_their_own(self):
        for rule in (CHESS, STRIPE, FLAT):
            mirrored = mirrored_rule(rule)
            for tile in tiles_of(rule):
                if tile in stills_of(mirrored):
                    self.assertEqual(still_at(mirrored, tile, 0, 5), tile_by_hand(mirrored, tile, 0, 5))
                else:
                    self.refused(NoTile, still_at, mirrored, tile, 0, 5)


if __name__ == "__main__":
    unittest.main()
