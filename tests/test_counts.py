"""3.1, 3.2 and 3.4: how many tiles there are, and 0.2, 0.3, 0.4 as far as they speak of them."""

import copy
import unittest

from samples import (
    ALPHABET, CHESS, FLAT, GREAT_RULES, LONELY, MANY_RULES, PARTED, STRIPE, TOWER, TURNS, Asker, even_rule, laid_far,
    laid_sizes, odd_numbers, odd_things, tiles_of,
)
from tilegrow.counts import counts_within, table_of, table_power, tile_counts
from tilegrow.errors import NoPlace
from tilegrow.far import cut_far, tile_far
from tilegrow.rules import mirrored_rule, turned_rule


def counted(rule, rows):
    text = "".join(rows)
    return [(tile, text.count(tile)) for tile in tiles_of(rule)]


def times(table, other):
    size = range(len(table))
    return tuple(tuple(sum(table[i][k] * other[k][j] for k in size) for j in size) for i in size)


class TileCountsTest(Asker):
    def test_ordinary_floors(self):
        self.assertEqual(self.told(tile_counts, STRIPE, "a", 3), [("a", 4), ("b", 4), ("c", 0)])
        self.assertEqual(self.told(tile_counts, CHESS, "a", 1), [("a", 2), ("b", 2), ("c", 0)])
        self.assertEqual(self.told(tile_counts, CHESS, "a", 2), [("a", 6), ("b", 6), ("c", 4)])
        self.assertEqual(self.told(tile_counts, LONELY, "a", 3), [("a", 1), ("b", 63), ("c", 0)])

    def test_against_laid_floors(self):
        for rule in MANY_RULES:
            for growings in laid_sizes(rule, 1000):
                for tile in tiles_of(rule):
                    self.assertEqual(tile_counts(rule, tile, growings), counted(rule, laid_far(rule, tile, growings)))

    def test_no_growings(self):
        for rule in MANY_RULES + GREAT_RULES:
            for tile in tiles_of(rule):
                expected = [(other, 1 if other == tile else 0) for other in tiles_of(rule)]
                self.assertEqual(self.told(tile_counts, rule, tile, 0), expected)

    def test_1000_growings(self):
        self.assertEqual(self.told(tile_counts, even_rule(4, 4), "a", 1000), [("a", 16 ** 1000)])
        half = 2 ** 999
        self.assertEqual(self.told(tile_counts, STRIPE, "b", 1000), [("a", half), ("b", half), ("c", 0)])
        self.assertEqual(self.told(tile_counts, LONELY, "a", 1000), [("a", 1), ("b", 4 ** 1000 - 1), ("c", 0)])
        self.assertEqual(self.told(tile_counts, TURNS, "a", 1000), [("a", 0), ("b", 3 ** 1000), ("c", 0)])
        self.assertEqual(self.told(tile_counts, TURNS, "a", 999), [("a", 3 ** 999), ("b", 0), ("c", 0)])

    def test_the_greatest_rules(self):
        for rule in GREAT_RULES:
            counts = self.told(tile_counts, rule, "m", 1000)
            self.assertEqual([tile for tile, many in counts], list(ALPHABET))
            self.assertEqual(sum(many for tile, many in counts), 16 ** 1000)
            # One growing on, each tile brings its block's.
            ahead = dict(tile_counts(rule, "m", 999))
            grown = dict.fromkeys(ALPHABET, 0)
            for tile, block in rule[2]:
                for part in "".join(block):
                    grown[part] += ahead[tile]
            self.assertEqual(dict(counts), grown)

    def test_no_tile(self):
        for thing in odd_things() + ["d", "z", "A", "ab", ("a",), ["a"]]:
            self.no_tile(thing, tile_counts, CHESS, thing, 3)
            self.no_tile(thing, tile_counts, CHESS, thing, 0)


class CountsWithinTest(Asker):
    def test_ordinary_cuts(self):
        self.assertEqual(self.told(counts_within, STRIPE, "a", 3, 1, 3), [("a", 1), ("b", 2), ("c", 0)])
        self.assertEqual(self.told(counts_within, CHESS, "a", 2, 3, 3), [("a", 4), ("b", 2), ("c", 3)])
        self.assertEqual(self.told(counts_within, CHESS, "a", 2, 1, 4), [("a", 1), ("b", 1), ("c", 2)])

    def test_against_laid_floors(self):
        for rule in MANY_RULES:
            for growings in laid_sizes(rule, 100):
                tile = tiles_of(rule)[0]
                floor = laid_far(rule, tile, growings)
                for rows in range(len(floor) + 1):
                    for columns in range(len(floor[0]) + 1):
                        expected = counted(rule, [row[:columns] for row in floor[:rows]])
                        self.assertEqual(counts_within(rule, tile, growings, rows, columns), expected)

    def test_no_rows_no_columns(self):
        for rule in MANY_RULES:
            none = [(tile, 0) for tile in tiles_of(rule)]
            for growings in (0, 1, 5, 60):
                rows, columns = rule[0] ** growings, rule[1] ** growings
                for tile in tiles_of(rule):
                    self.assertEqual(counts_within(rule, tile, growings, 0, 0), none)
                    self.assertEqual(counts_within(rule, tile, growings, rows, 0), none)
                    self.assertEqual(counts_within(rule, tile, growings, 0, columns), none)

    def test_all_of_both(self):
        for rule in MANY_RULES + GREAT_RULES:
            for growings in (0, 1, 2, 17, 60):
                for tile in tiles_of(rule)[:3]:
                    within = counts_within(rule, tile, growings, rule[0] ** growings, rule[1] ** growings)
                    self.assertEqual(within, tile_counts(rule, tile, growings))

    def test_after_60_growings(self):
        for rule in (CHESS, FLAT, STRIPE, TOWER) + tuple(GREAT_RULES):
            rows, columns = rule[0] ** 60, rule[1] ** 60
            tall, broad = min(rows, 40), min(columns, 30)
            cut = cut_far(rule, "c", 60, 0, 0, tall, broad)
            self.assertEqual(self.told(counts_within, rule, "c", 60, tall, broad), counted(rule, cut))
            for row in (0, rows // 3, rows - 1):
                for column in (0, columns // 7, columns - 1):
                    # By four counts the one tile at the corner is told.
                    corner = {}
                    for more, sign in (((1, 1), 1), ((0, 1), -1), ((1, 0), -1), ((0, 0), 1)):
                        for tile, many in counts_within(rule, "c", 60, row + more[0], column + more[1]):
                            corner[tile] = corner.get(tile, 0) + sign * many
                    there = tile_far(rule, "c", 60, row, column)
                    self.assertEqual(corner, {tile: int(tile == there) for tile in tiles_of(rule)})

    def test_all_that_is_counted_comes_together(self):
        for rule in (CHESS, FLAT) + tuple(GREAT_RULES):
            rows, columns = rule[0] ** 60 // 5, rule[1] ** 60 // 3
            counts = self.told(counts_within, rule, "b", 60, rows, columns)
            self.assertEqual(sum(many for tile, many in counts), rows * columns)

    def test_no_place(self):
        for rule, growings in ((CHESS, 0), (CHESS, 1), (STRIPE, 3), (TOWER, 2), (FLAT, 60)):
            rows, columns = rule[0] ** growings, rule[1] ** growings
            for thing in odd_numbers(0, rows):
                self.refused(NoPlace, counts_within, rule, "a", growings, thing, 0)
                self.refused(NoPlace, counts_within, rule, "a", growings, thing, columns)
            for thing in odd_numbers(0, columns):
                self.refused(NoPlace, counts_within, rule, "a", growings, 0, thing)
                self.refused(NoPlace, counts_within, rule, "a", growings, rows, thing)
            self.refused(NoPlace, counts_within, rule, "a", growings, rows + 1, columns + 1)
            self.refused(NoPlace, counts_within, rule, "a", growings, None, None)

    def test_no_tile_goes_ahead_of_no_place(self):
        for thing in odd_things() + ["d", "z"]:
            self.no_tile(thing, counts_within, CHESS, thing, 2, 2, 2)
            self.no_tile(thing, counts_within, CHESS, thing, 2, 5, -1)
            self.no_tile(thing, counts_within, CHESS, thing, 2, thing, None)


class TableTest(Asker):
    def test_ordinary_tables(self):
        self.assertEqual(self.told(table_of, STRIPE), ((1, 1, 0), (1, 1, 0), (0, 0, 2)))
        self.assertEqual(self.told(table_of, CHESS), ((2, 2, 0), (1, 1, 2), (1, 2, 1)))
        self.assertEqual(self.told(table_of, even_rule(4, 4)), ((16,),))
        self.assertEqual(self.told(table_power, STRIPE, 3), ((4, 4, 0), (4, 4, 0), (0, 0, 8)))
        self.assertEqual(self.told(table_power, CHESS, 2), ((6, 6, 4), (5, 7, 4), (5, 6, 5)))

    def test_each_row_counts_a_block(self):
        for rule in MANY_RULES + GREAT_RULES:
            table = self.told(table_of, rule)
            self.assertEqual(len(table), len(rule[2]))
            for row, (tile, block) in zip(table, rule[2]):
                self.assertIs(row.__class__, tuple)
                self.assertEqual(row, tuple(many for part, many in counted(rule, block)))

    def test_no_growings(self):
        self.assertEqual(self.told(table_power, CHESS, 0), ((1, 0, 0), (0, 1, 0), (0, 0, 1)))
        for rule in MANY_RULES + GREAT_RULES:
            size = range(len(rule[2]))
            expected = tuple(tuple(int(row == column) for column in size) for row in size)
            self.assertEqual(self.told(table_power, rule, 0), expected)

    def test_powers(self):
        for rule in MANY_RULES:
            expected = table_power(rule, 0)
            for growings in range(1, 20):
                expected = times(expected, table_of(rule))
                self.assertEqual(table_power(rule, growings), expected)

    def test_1000_growings(self):
        half = 2 ** 999
        self.assertEqual(self.told(table_power, STRIPE, 1000), ((half, half, 0), (half, half, 0), (0, 0, 2 ** 1000)))
        self.assertEqual(self.told(table_power, even_rule(4, 4), 1000), ((16 ** 1000,),))
        for rule in [CHESS, PARTED] + GREAT_RULES:
            power = self.told(table_power, rule, 1000)
            self.assertEqual({sum(row) for row in power}, {(rule[0] * rule[1]) ** 1000})
            self.assertEqual(power, times(table_power(rule, 999), table_of(rule)))

    def test_all_are_tuples(self):
        for growings in (0, 1, 2, 7):
            power = table_power(CHESS, growings)
            self.assertIs(power.__class__, tuple)
            self.assertEqual({row.__class__ for row in power}, {tuple})


class ConsequencesTest(Asker):
    def test_all_tiles_come_together_to_rows_times_columns(self):
        for rule in MANY_RULES + GREAT_RULES:
            for growings in (0, 1, 2, 60, 1000):
                counts = tile_counts(rule, tiles_of(rule)[0], growings)
                self.assertEqual(sum(many for tile, many in counts), (rule[0] * rule[1]) ** growings)

    def test_the_tables_power_is_its_rows_tile_counts(self):
        for rule in MANY_RULES:
            for growings in (0, 1, 2, 9, 100):
                expected = tuple(
                    tuple(many for other, many in tile_counts(rule, tile, growings)) for tile in tiles_of(rule)
                )
                self.assertEqual(table_power(rule, growings), expected)
        for rule in GREAT_RULES:
            power = table_power(rule, 1000)
            for number in (0, 12, 25):
                counts = tile_counts(rule, ALPHABET[number], 1000)
                self.assertEqual(power[number], tuple(many for tile, many in counts))

    def test_turned_or_mirrored_the_table_is_the_same(self):
        for rule in MANY_RULES + GREAT_RULES:
            self.assertEqual(table_of(turned_rule(rule)), table_of(rule))
            self.assertEqual(table_of(mirrored_rule(rule)), table_of(rule))
            self.assertEqual(table_power(turned_rule(rule), 5), table_power(rule, 5))


class SameAnswerTest(Asker):
    def test_whatever_was_asked_in_between(self):
        questions = [
            (tile_counts, CHESS, "a", 9), (counts_within, CHESS, "b", 9, 300, 400), (table_of, CHESS),
            (table_power, CHESS, 9), (tile_counts, PARTED, "z", 9), (counts_within, PARTED, "z", 9, 300, 1),
            (table_of, PARTED), (table_power, PARTED, 9),
        ]
        before = copy.deepcopy(questions)
        first = [asked(*handed) for asked, *handed in questions]
        again = [asked(*handed) for asked, *handed in reversed(questions)]
        self.assertEqual(again, first[::-1])
        self.assertEqual(questions, before)

    def test_lists_that_were_told_are_the_askers_own(self):
        counts = tile_counts(CHESS, "a", 2)
        within = counts_within(CHESS, "a", 2, 4, 4)
        counts[0] = ("a", 7)
        within.clear()
        self.assertEqual(tile_counts(CHESS, "a", 2), [("a", 6), ("b", 6), ("c", 4)])
        self.assertEqual(counts_within(CHESS, "a", 2, 4, 4), [("a", 6), ("b", 6), ("c", 4)])


if __name__ == "__main__":
    unittest.main()
