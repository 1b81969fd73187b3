"""2.1 to 2.6: far floors, and 0.2, 0.3, 0.4 as far as they speak of them."""

import copy
import unittest

from samples import (
    ALPHABET, CHESS, FLAT, GREAT_RULES, LONELY, MANY_RULES, PARTED, STRIPE, TOWER, TURNS, Asker, cut_by_hand,
    even_rule, laid_far, laid_sizes, odd_numbers, odd_things, tiles_of,
)
from tilegrow.errors import NoNumber, NoPlace, NoTile
from tilegrow.far import cut_far, digits_far, first_far, line_far, line_holds, place_far, tile_far
from tilegrow.floors import floor_good
from tilegrow.rules import grown_often


def places(rows, columns, step=1):
    return [(row, column) for row in range(0, rows, step) for column in range(0, columns, step)]


class TileFarTest(Asker):
    def test_ordinary_places(self):
        self.assertEqual([tile_far(STRIPE, "a", 3, 0, column) for column in range(8)], list("abbabaab"))
        self.assertEqual(tile_far(CHESS, "a", 2, 0, 2), "c")
        self.assertEqual(tile_far(CHESS, "a", 2, 2, 0), "c")
        self.assertEqual(tile_far(CHESS, "a", 2, 3, 1), "b")
        self.assertEqual(tile_far(TOWER, "a", 2, 5, 0), "a")

    def test_against_laid_floors(self):
        for rule in MANY_RULES:
            for growings in laid_sizes(rule, 300):
                for tile in tiles_of(rule):
                    floor = laid_far(rule, tile, growings)
                    for row, column in places(len(floor), len(floor[0])):
                        self.assertEqual(tile_far(rule, tile, growings, row, column), floor[row][column])

    def test_no_growings(self):
        for rule in MANY_RULES + GREAT_RULES:
            for tile in tiles_of(rule):
                self.assertEqual(self.told(tile_far, rule, tile, 0, 0, 0), tile)

    def test_60_growings_the_first_and_the_last_place(self):
        for rule in MANY_RULES + GREAT_RULES:
            high, wide, blocks = rule
            block_of = dict(blocks)
            for tile in tiles_of(rule):
                for bottom, right in ((0, 0), (0, -1), (-1, 0), (-1, -1)):
                    expected = tile
                    for growing in range(60):
                        expected = block_of[expected][bottom][right]
                    place = ((high ** 60 - 1) * -bottom, (wide ** 60 - 1) * -right)
                    self.assertEqual(self.told(tile_far, rule, tile, 60, *place), expected)

    def test_far_within_by_blocks_of_four_growings(self):
        rule = GREAT_RULES[1]
        row, column = 4 ** 60 // 3, 4 ** 60 // 7
        tile = "q"
        for growings in range(60):
            down = row // 4 ** (59 - growings) % 4
            right = column // 4 ** (59 - growings) % 4
            tile = dict(rule[2])[tile][down][right]
        self.assertEqual(tile_far(rule, "q", 60, row, column), tile)

    def test_no_tile(self):
        for asked in (tile_far, line_far):
            for thing in odd_things() + ["d", "z", "A", "", "ab", ("a",), ["a"], {"a": "a"}]:
                self.no_tile(thing, asked, CHESS, thing, 2, 0, 0)
        for thing in odd_things() + ["d"]:
            self.no_tile(thing, cut_far, CHESS, thing, 2, 0, 0, 1, 1)

    def test_no_number(self):
        for thing in odd_numbers(0, 60):
            self.refused(NoNumber, tile_far, CHESS, "a", thing, 0, 0)
            self.refused(NoNumber, line_far, CHESS, "a", thing, 0, 0)
            self.refused(NoNumber, cut_far, CHESS, "a", thing, 0, 0, 1, 1)
            self.refused(NoNumber, digits_far, CHESS, thing, 0, 0)
        for thing in (61, -1, True, False):
            self.refused(NoNumber, tile_far, CHESS, "a", thing, 0, 0)

    def test_no_place(self):
        for rule, growings in ((CHESS, 0), (CHESS, 1), (CHESS, 60), (STRIPE, 3), (TOWER, 2), (FLAT, 2), (FLAT, 60)):
            rows, columns = rule[0] ** growings, rule[1] ** growings
            for thing in odd_numbers(0, rows - 1):
                self.refused(NoPlace, tile_far, rule, "a", growings, thing, 0)
                self.refused(NoPlace, line_far, rule, "a", growings, thing, 0)
                self.refused(NoPlace, cut_far, rule, "a", growings, thing, 0, 1, 1)
                self.refused(NoPlace, digits_far, rule, growings, thing, 0)
            for thing in odd_numbers(0, columns - 1):
                self.refused(NoPlace, tile_far, rule, "b", growings, 0, thing)
                self.refused(NoPlace, line_far, rule, "b", growings, 0, thing)
                self.refused(NoPlace, cut_far, rule, "b", growings, 0, thing, 1, 1)
                self.refused(NoPlace, digits_far, rule, growings, 0, thing)

    def test_the_order_where_several_are_due(self):
        for asked, tail in ((tile_far, ()), (line_far, ()), (cut_far, (1, 1))):
            self.no_tile("x", asked, CHESS, "x", 61, -1, -1, *tail)
            self.no_tile(None, asked, CHESS, None, None, None, None, *tail)
            self.no_tile(True, asked, CHESS, True, 2, 4, 0, *tail)
            self.refused(NoNumber, asked, CHESS, "a", 61, -1, -1, *tail)
            self.refused(NoNumber, asked, CHESS, "a", True, 0, [], *tail)
            self.refused(NoNumber, asked, CHESS, "a", None, None, None, *tail)
            self.refused(NoPlace, asked, CHESS, "a", 2, 4, None, *tail)
        self.refused(NoNumber, digits_far, CHESS, 61, -1, -1)
        self.refused(NoNumber, digits_far, CHESS, [], {}, ())


class CutFarTest(Asker):
    def test_against_laid_floors(self):
        for rule in MANY_RULES:
            for growings in laid_sizes(rule, 150):
                floor = laid_far(rule, tiles_of(rule)[-1], growings)
                rows, columns = len(floor), len(floor[0])
                for row, column in places(rows, columns, 2):
                    for high in {1, 2, 3, rows - row}:
                        for wide in {1, 2, 3, columns - column}:
                            if row + high <= rows and column + wide <= columns and high <= 64 and wide <= 64:
                                cut = cut_far(rule, tiles_of(rule)[-1], growings, row, column, high, wide)
                                self.assertEqual(cut, cut_by_hand(floor, row, column, high, wide))

    def test_far_cuts_tile_by_tile(self):
        for rule in (CHESS, STRIPE, TOWER, FLAT, GREAT_RULES[1]):
            rows, columns = rule[0] ** 60, rule[1] ** 60
            for row, column in ((0, 0), (rows // 3, columns // 5), (rows // 2, columns // 2), (rows - 1, columns - 1)):
                for high, wide in ((1, 1), (1, 64), (64, 1), (2, 3), (9, 8)):
                    if rows < high or columns < wide:
                        continue
                    first, start = min(row, rows - high), min(column, columns - wide)
                    cut = self.told(cut_far, rule, "c", 60, first, start, high, wide)
                    self.assertEqual((len(cut), len(cut[0])), (high, wide))
                    for down in range(high):
                        for right in range(wide):
                            self.assertEqual(cut[down][right], tile_far(rule, "c", 60, first + down, start + right))

    def test_the_greatest_cuts(self):
        for rule in [CHESS] + GREAT_RULES:
            last = rule[0] ** 60 - 64
            # The middle is where floors that are unlike from the first growing on meet.
            for place in (0, last // 2, rule[0] ** 59 - 31, last):
                cut = self.told(cut_far, rule, "a", 60, place, place, 64, 64)
                self.assertIs(floor_good(cut), True)
                for step in range(0, 64, 7):
                    self.assertEqual(cut[step][63 - step], tile_far(rule, "a", 60, place + step, place + 63 - step))

    def test_one_row_and_one_column(self):
        last = 2 ** 60
        self.assertEqual(cut_far(STRIPE, "a", 60, 0, 0, 1, 8), ("abbabaab",))
        self.assertEqual(cut_far(STRIPE, "a", 60, 0, last - 4, 1, 4), ("abba",))
        self.assertEqual(cut_far(STRIPE, "c", 60, 0, 7, 1, 64), ("c" * 64,))
        self.assertEqual(cut_far(TOWER, "a", 60, 0, 0, 9, 1), ("a", "b", "c", "c", "c", "a", "b", "a", "a"))

    def test_not_all_of_it_lies_in_the_far_floor(self):
        self.assertEqual(cut_far(CHESS, "a", 2, 0, 0, 4, 4), ("abcc", "baab", "ccab", "abba"))
        for handed in ((0, 0, 5, 4), (0, 0, 4, 5), (1, 0, 4, 4), (0, 1, 4, 4), (3, 3, 2, 1), (3, 3, 1, 2),
                       (0, 0, 64, 64), (3, 0, 2, 4), (0, 3, 4, 2)):
            self.refused(NoPlace, cut_far, CHESS, "a", 2, *handed)
        self.assertEqual(cut_far(CHESS, "a", 2, 3, 3, 1, 1), ("a",))
        for size in (1, 2, 64):
            last = 2 ** 60 - size
            self.assertEqual(len(cut_far(CHESS, "b", 60, last, last, size, size)), size)
            self.refused(NoPlace, cut_far, CHESS, "b", 60, last + 1, last, size, size)
            self.refused(NoPlace, cut_far, CHESS, "b", 60, last, last + 1, size, size)
        self.refused(NoPlace, cut_far, STRIPE, "a", 60, 0, 0, 2, 1)
        self.refused(NoPlace, cut_far, TOWER, "a", 60, 0, 0, 1, 2)
        self.refused(NoPlace, cut_far, CHESS, "a", 0, 0, 0, 2, 1)

    def test_the_order_with_cuts_that_lie_beyond(self):
        self.no_tile("x", cut_far, CHESS, "x", 61, 0, 0, 64, 64)
        self.no_tile("x", cut_far, CHESS, "x", 1, 0, 0, 64, 64)
        self.refused(NoNumber, cut_far, CHESS, "a", 61, 0, 0, 64, 64)
        self.refused(NoNumber, cut_far, CHESS, "a", -1, 0, 0, 64, 64)

    def test_somewhat_beyond_64_nothing_is_refused(self):
        self.assertEqual(cut_far(even_rule(2, 2), "a", 60, 5, 5, 66, 65), ("a" * 65,) * 66)


class LineFarTest(Asker):
    def test_ordinary_lines(self):
        self.assertEqual(self.told(line_far, STRIPE, "a", 3, 0, 5), ["a", "b", "b", "a"])
        self.assertEqual(self.told(line_far, CHESS, "a", 2, 2, 3), ["a", "a", "b"])
        self.assertEqual(self.told(digits_far, STRIPE, 3, 0, 5), [(0, 1), (0, 0), (0, 1)])
        self.assertEqual(self.told(digits_far, FLAT, 2, 3, 7), [(1, 2), (1, 1)])
        self.assertEqual(self.told(place_far, FLAT, [(1, 2), (1, 1)]), (3, 7))

    def test_no_growings(self):
        for rule in MANY_RULES:
            self.assertEqual(self.told(line_far, rule, tiles_of(rule)[0], 0, 0, 0), [tiles_of(rule)[0]])
            self.assertEqual(self.told(digits_far, rule, 0, 0, 0), [])
            self.assertEqual(self.told(place_far, rule, []), (0, 0))

    def test_each_tile_is_that_of_the_floor_after_so_many_growings(self):
        for rule in MANY_RULES:
            high, wide, blocks = rule
            for growings in laid_sizes(rule, 70):
                tile = tiles_of(rule)[0]
                floors = [laid_far(rule, tile, number) for number in range(growings + 1)]
                for row, column in places(high ** growings, wide ** growings):
                    line = line_far(rule, tile, growings, row, column)
                    digits = digits_far(rule, growings, row, column)
                    self.assertEqual((len(line), len(digits)), (growings + 1, growings))
                    for number in range(growings + 1):
                        further = growings - number
                        place = (row // high ** further, column // wide ** further)
                        self.assertEqual(line[number], floors[number][place[0]][place[1]])
                        self.assertEqual(place_far(rule, digits[:number]), place)
                    self.assertIs(line_holds(rule, (line, digits)), True)

    def test_60_growings(self):
        for rule in [CHESS, STRIPE, TOWER, FLAT, PARTED] + GREAT_RULES:
            rows, columns = rule[0] ** 60, rule[1] ** 60
            tile = tiles_of(rule)[1]
            for row in (0, rows // 5, rows - 1):
                for column in (0, columns // 3, columns - 1):
                    line = self.told(line_far, rule, tile, 60, row, column)
                    digits = self.told(digits_far, rule, 60, row, column)
                    self.assertEqual((len(line), len(digits)), (61, 60))
                    self.assertEqual((line[0], line[-1]), (tile, tile_far(rule, tile, 60, row, column)))
                    self.assertEqual(self.told(place_far, rule, digits), (row, column))
                    self.yes(line_holds, rule, (line, digits))

    def test_60_digits_and_61(self):
        self.assertEqual(place_far(FLAT, [(1, 2)] * 60), (2 ** 60 - 1, 3 ** 60 - 1))
        self.refused(NoPlace, place_far, FLAT, [(1, 2)] * 61)
        self.refused(NoPlace, place_far, FLAT, [(0, 0)] * 61)
        self.refused(NoPlace, place_far, FLAT, [(0, 0)] * 1000)

    def test_no_list_of_digits(self):
        for thing in odd_things():
            if thing != []:
                self.refused(NoPlace, place_far, FLAT, thing)
            if thing != (1, 2):
                self.refused(NoPlace, place_far, FLAT, [thing])
                self.refused(NoPlace, place_far, FLAT, [(0, 0), thing, (0, 0)])
        self.refused(NoPlace, place_far, FLAT, ((0, 0), (1, 1)))
        self.refused(NoPlace, place_far, FLAT, [[0, 0]])
        self.refused(NoPlace, place_far, FLAT, [(0, 0), [1, 1]])
        self.refused(NoPlace, place_far, FLAT, [(0, 0, 0)])
        self.refused(NoPlace, place_far, FLAT, [(0,)])
        self.refused(NoPlace, place_far, FLAT, {(0, 0): (0, 0)})

    def test_digits_beyond_high_or_wide(self):
        for thing in odd_numbers(0, 1):
            self.refused(NoPlace, place_far, FLAT, [(thing, 0)])
            self.refused(NoPlace, place_far, FLAT, [(1, 1), (thing, 0)])
        for thing in odd_numbers(0, 2):
            self.refused(NoPlace, place_far, FLAT, [(0, thing)])
            self.refused(NoPlace, place_far, FLAT, [(0, thing), (1, 1)])
        self.refused(NoPlace, place_far, STRIPE, [(1, 0)])
        self.refused(NoPlace, place_far, TOWER, [(0, 1)])
        for digit in ((True, 0), (0, True), (False, 0), (0, False)):
            self.refused(NoPlace, place_far, FLAT, [digit])

    def test_a_list_that_was_handed_in_and_changed(self):
        digits = [(1, 2), (0, 1)]
        self.assertEqual(place_far(FLAT, digits), (2, 7))
        digits.append((1, 1))
        self.assertEqual(place_far(FLAT, digits), (5, 22))
        digits[0] = (2, 0)
        self.refused(NoPlace, place_far, FLAT, digits)
        self.assertEqual(place_far(FLAT, [(1, 2), (0, 1)]), (2, 7))


class LineHoldsTest(Asker):
    def test_lines_by_anybody(self):
        self.yes(line_holds, STRIPE, (["a"], []))
        self.yes(line_holds, STRIPE, (["a", "b"], [(0, 1)]))
        self.yes(line_holds, STRIPE, (["a", "a"], [(0, 0)]))
        self.yes(line_holds, STRIPE, (["b", "a", "b", "b"], [(0, 1), (0, 1), (0, 0)]))
        self.yes(line_holds, CHESS, (["c", "b", "c"], [(1, 1), (0, 0)]))
        self.no(line_holds, STRIPE, (["a", "b"], [(0, 0)]))
        self.no(line_holds, STRIPE, (["a", "c"], [(0, 1)]))
        self.no(line_holds, CHESS, (["c", "b", "c"], [(1, 1), (1, 0)]))

    def test_lines_of_more_than_60_digits(self):
        for many in (60, 61, 62, 100, 1000):
            self.yes(line_holds, STRIPE, (["a"] * (many + 1), [(0, 0)] * many))
            self.no(line_holds, STRIPE, (["a"] * many + ["b"], [(0, 0)] * many))
            self.yes(line_holds, STRIPE, (["a"] * many + ["b"], [(0, 0)] * (many - 1) + [(0, 1)]))
            self.no(line_holds, STRIPE, (["b"] + ["a"] * many, [(0, 0)] * many))

    def test_each_tile_and_each_digit_counts(self):
        tiles = line_far(CHESS, "b", 8, 173, 94)
        digits = digits_far(CHESS, 8, 173, 94)
        block_of = dict(CHESS[2])
        self.yes(line_holds, CHESS, (tiles, digits))
        for place in range(9):
            for tile in "abc":
                changed = tiles[:place] + [tile] + tiles[place + 1:]
                holds = all(block_of[changed[k]][digits[k][0]][digits[k][1]] == changed[k + 1] for k in range(8))
                self.assertIs(line_holds(CHESS, (changed, digits)), holds)
        for place in range(8):
            for digit in ((0, 0), (0, 1), (1, 0), (1, 1)):
                changed = digits[:place] + [digit] + digits[place + 1:]
                holds = block_of[tiles[place]][digit[0]][digit[1]] == tiles[place + 1]
                self.assertIs(line_holds(CHESS, (tiles, changed)), holds)

    def test_another_number_of_tiles_or_digits(self):
        self.no(line_holds, STRIPE, ([], []))
        self.no(line_holds, STRIPE, ([], [(0, 0)]))
        self.no(line_holds, STRIPE, (["a"], [(0, 0)]))
        self.no(line_holds, STRIPE, (["a", "a"], []))
        self.no(line_holds, STRIPE, (["a", "a"], [(0, 0), (0, 0)]))
        self.no(line_holds, STRIPE, (["a", "a", "a"], [(0, 0)]))

    def test_other_forms(self):
        self.no(line_holds, STRIPE, [["a"], []])
        self.no(line_holds, STRIPE, (("a",), []))
        self.no(line_holds, STRIPE, (["a"], ()))
        self.no(line_holds, STRIPE, (("a", "a"), [(0, 0)]))
        self.no(line_holds, STRIPE, (["a", "a"], ((0, 0),)))
        self.no(line_holds, STRIPE, (["a", "a"], [[0, 0]]))
        self.no(line_holds, STRIPE, ("aa", [(0, 0)]))
        self.no(line_holds, STRIPE, ("a", []))
        self.no(line_holds, STRIPE, ({"a": 0}, []))
        self.no(line_holds, STRIPE, (["a"], {}))
        self.no(line_holds, STRIPE, (["a"], ""))
        self.no(line_holds, STRIPE, (["a"], [], []))
        self.no(line_holds, STRIPE, (["a"],))
        self.no(line_holds, STRIPE, (["a", "a"], [(0, 0, 0)]))
        self.no(line_holds, STRIPE, (["a", "a"], [(0,)]))

    def test_digits_beyond_and_truths(self):
        self.no(line_holds, STRIPE, (["a", "a"], [(0, False)]))
        self.no(line_holds, STRIPE, (["a", "a"], [(False, 0)]))
        self.no(line_holds, STRIPE, (["a", "b"], [(0, True)]))
        self.no(line_holds, STRIPE, (["a", "b"], [(0, -1)]))
        self.no(line_holds, STRIPE, (["a", "b"], [(-1, 1)]))
        self.no(line_holds, STRIPE, (["a", "b"], [(1, 1)]))
        self.no(line_holds, STRIPE, (["a", "b"], [(0, 2)]))

    def test_tiles_that_the_rule_lacks(self):
        self.no(line_holds, STRIPE, (["z"], []))
        self.no(line_holds, STRIPE, (["z", "a"], [(0, 0)]))
        self.no(line_holds, STRIPE, (["a", "z"], [(0, 0)]))
        self.no(line_holds, STRIPE, (["ab"], []))
        self.no(line_holds, STRIPE, ([""], []))

    def test_whatever_is_handed_in(self):
        for thing in odd_things():
            self.no(line_holds, STRIPE, thing)
            self.assertIs(line_holds(STRIPE, (thing, [])), thing == ["a"])
            self.no(line_holds, STRIPE, (thing, [(0, 0)]))
            self.no(line_holds, STRIPE, (thing, thing))
            self.no(line_holds, STRIPE, ([thing], []))
            self.no(line_holds, STRIPE, (["a", thing], [(0, 0)]))
            self.no(line_holds, STRIPE, (["a", "a"], [thing]))
            self.no(line_holds, STRIPE, (["a", "a"], thing))
            self.no(line_holds, STRIPE, (["a", "a"], [(thing, 5)]))
        for thing in odd_numbers(0, 0):
            self.no(line_holds, STRIPE, (["a", "a"], [(thing, 0)]))
            self.no(line_holds, STRIPE, (["c", "a"], [(0, thing)]))

    def test_a_line_changed_behind_the_call(self):
        tiles, digits = ["a", "b"], [(0, 1)]
        self.yes(line_holds, STRIPE, (tiles, digits))
        tiles.append("b")
        self.no(line_holds, STRIPE, (tiles, digits))
        digits.append((0, 0))
        self.yes(line_holds, STRIPE, (tiles, digits))


class FirstFarTest(Asker):
    def expected(self, floor, other):
        found = [(row, tiles.index(other)) for row, tiles in enumerate(floor) if other in tiles]
        return min(found, default=None)

    def test_against_laid_floors(self):
        for rule in MANY_RULES:
            for growings in laid_sizes(rule, 300):
                for tile in tiles_of(rule):
                    floor = laid_far(rule, tile, growings)
                    for other in tiles_of(rule):
                        self.assertEqual(first_far(rule, tile, growings, other), self.expected(floor, other))

    def test_rows_go_ahead_of_columns(self):
        rule = (2, 2, (("a", ("ba", "aa")), ("b", ("aa", "ca")), ("c", ("ca", "aa"))))
        self.assertEqual(self.told(first_far, rule, "a", 2, "c"), (1, 0))
        self.assertEqual(self.told(first_far, rule, "a", 2, "b"), (0, 2))
        self.assertEqual(self.told(first_far, (1, 2, (("a", ("ab",)), ("b", ("bb",)))), "a", 60, "b"), (0, 1))

    def test_none_where_it_stands_nowhere(self):
        self.assertIsNone(self.told(first_far, LONELY, "b", 60, "a"))
        self.assertIsNone(self.told(first_far, LONELY, "a", 60, "c"))
        self.assertIsNone(self.told(first_far, LONELY, "a", 0, "b"))
        self.assertEqual(self.told(first_far, LONELY, "a", 0, "a"), (0, 0))
        self.assertEqual([first_far(TURNS, "a", growings, "c") for growings in range(6)],
                         [None, None, (0, 0), None, None, (0, 0)])
        self.assertEqual(self.told(first_far, TURNS, "a", 60, "a"), (0, 0))
        self.assertIsNone(self.told(first_far, TURNS, "a", 59, "a"))

    def test_after_60_growings(self):
        chain = (2, 2, tuple((tile, (tile * 2, tile + after)) for tile, after in zip("abcd", "bcdd")))
        self.assertEqual(first_far(chain, "a", 60, "b"), (1, 1))
        self.assertEqual(first_far(chain, "a", 60, "c"), (3, 3))
        self.assertEqual(first_far(chain, "a", 60, "d"), (7, 7))
        late = (2, 3, (("a", ("aaa", "aab")), ("b", ("bbb", "bbb"))))
        self.assertEqual(first_far(late, "a", 60, "b"), (1, 2))
        last = (2, 2, (("a", ("bb", "ba")), ("b", ("bb", "bb"))))
        self.assertEqual(first_far(last, "a", 60, "a"), (2 ** 60 - 1, 2 ** 60 - 1))
        for other in ALPHABET:
            place = self.told(first_far, GREAT_RULES[1], "a", 60, other)
            self.assertEqual(tile_far(GREAT_RULES[1], "a", 60, *place), other)

    def test_refusals_in_their_order(self):
        for thing in odd_things() + ["d", "z"]:
            self.no_tile(thing, first_far, CHESS, thing, 61, None)
            self.no_tile(thing, first_far, CHESS, thing, 2, "z")
            self.no_tile(thing, first_far, CHESS, "a", 2, thing)
            self.refused(NoNumber, first_far, CHESS, "a", 61, thing)
        for thing in odd_numbers(0, 60):
            self.refused(NoNumber, first_far, CHESS, "a", thing, "b")
            self.refused(NoNumber, first_far, CHESS, "a", thing, "z")


class ConsequencesTest(Asker):
    def test_cut_as_a_whole_it_is_the_floor_grown(self):
        for rule in MANY_RULES:
            growings = 0
            while rule[0] ** growings <= 64 and rule[1] ** growings <= 64:
                for tile in tiles_of(rule):
                    whole = cut_far(rule, tile, growings, 0, 0, rule[0] ** growings, rule[1] ** growings)
                    self.assertEqual(whole, grown_often(rule, (tile,), growings))
                growings += 1

    def test_at_each_place_the_far_floor_of_the_tile_there(self):
        for rule in MANY_RULES:
            high, wide, blocks = rule
            tile = tiles_of(rule)[0]
            for first, further in ((0, 2), (1, 1), (1, 2), (2, 1), (2, 0)):
                if max(high, wide) ** further > 16:
                    continue
                for row, column in places(high ** first, wide ** first):
                    there = tile_far(rule, tile, first, row, column)
                    rows, columns = high ** further, wide ** further
                    self.assertEqual(
                        cut_far(rule, tile, first + further, row * rows, column * columns, rows, columns),
                        cut_far(rule, there, further, 0, 0, rows, columns),
                    )

    def test_at_places_far_off(self):
        for rule in (CHESS, FLAT, STRIPE, TOWER) + tuple(GREAT_RULES):
            high, wide, blocks = rule
            row, column = high ** 57 // 3, wide ** 57 // 7
            there = tile_far(rule, "b", 57, row, column)
            whole = cut_far(rule, "b", 60, row * high ** 3, column * wide ** 3, high ** 3, wide ** 3)
            self.assertEqual(whole, grown_often(rule, (there,), 3))

    def test_a_line_that_holds_tells_the_tile_there(self):
        source = [(3 * k + 1, 5 * k + 2) for k in range(60)]
        for rule in MANY_RULES + GREAT_RULES:
            for many in (0, 1, 7, 60):
                digits = [(i % rule[0], j % rule[1]) for i, j in source[:many]]
                tiles = [tiles_of(rule)[-1]]
                for i, j in digits:
                    tiles.append(dict(rule[2])[tiles[-1]][i][j])
                self.assertIs(line_holds(rule, (tiles, digits)), True)
                self.assertEqual(tile_far(rule, tiles[0], many, *place_far(rule, digits)), tiles[-1])


class SameAnswerTest(Asker):
    def test_whatever_was_asked_in_between(self):
        questions = [
            (tile_far, CHESS, "a", 9, 300, 400), (cut_far, CHESS, "b", 9, 300, 400, 3, 5),
            (line_far, CHESS, "c", 9, 300, 400), (digits_far, CHESS, 9, 300, 400),
            (place_far, CHESS, [(1, 0), (0, 1)]), (first_far, CHESS, "b", 9, "a"), (line_holds, CHESS, (["a"], [])),
            (line_far, PARTED, "k", 9, 300, 0), (first_far, LONELY, "b", 9, "a"),
        ]
        before = copy.deepcopy(questions)
        first = [asked(*handed) for asked, *handed in questions]
        again = [asked(*handed) for asked, *handed in reversed(questions)]
        self.assertEqual(again, first[::-1])
        self.assertEqual(questions, before)

    def test_lists_that_were_told_are_the_askers_own(self):
        line = line_far(CHESS, "c", 9, 300, 400)
        digits = digits_far(CHESS, 9, 300, 400)
        kept = (list(line), list(digits))
        line.append("z")
        digits.clear()
        self.assertEqual((line_far(CHESS, "c", 9, 300, 400), digits_far(CHESS, 9, 300, 400)), kept)

    def test_what_is_refused_changes_nothing(self):
        for thing in odd_things():
            self.refused(NoTile, tile_far, CHESS, thing, 2, 0, 0)
            self.assertEqual(cut_far(CHESS, "a", 2, 0, 0, 4, 4), ("abcc", "baab", "ccab", "abba"))


if __name__ == "__main__":
    unittest.main()
