"""5.1 to 5.4: how often pieces come, and 0.2, 0.3, 0.4 as far as they speak of them."""

import copy
import unittest

from samples import (
    CHESS, FLAT, GREAT_RULES, LONELY, MANY_RULES, PARTED, STRIPE, TOWER, TURNS, Asker, even_floor, even_rule,
    laid_far, laid_sizes, odd_things, pieces_by_hand, tiles_of,
)
from tilegrow.counts import tile_counts
from tilegrow.errors import NoFloor
from tilegrow.far import cut_far
from tilegrow.floors import mirrored_floor, turned_floor
from tilegrow.pieces import crossings, places_in, times_far, times_in
from tilegrow.rules import grown_often, mirrored_rule, turned_rule

SHAPES = [(rows, columns) for rows in (1, 2, 3) for columns in (1, 2, 3)]


def all_pieces(tiles, rows, columns):
    found = [()]
    for row in range(rows):
        texts = [""]
        for column in range(columns):
            texts = [text + tile for text in texts for tile in tiles]
        found = [piece + (text,) for piece in found for text in texts]
    return found


def crossings_by_hand(floor):
    found = []
    for rows, columns in ((1, 1), (1, 2), (2, 1), (2, 2)):
        found += [(piece, len(places)) for piece, places in pieces_by_hand(floor, rows, columns).items()]
    return sorted(found)


class PlacesInTest(Asker):
    def test_ordinary_pieces(self):
        floor = ("abcc", "baab", "ccab", "abba")
        self.assertEqual(self.told(places_in, ("ab",), floor), [(0, 0), (1, 2), (2, 2), (3, 0)])
        self.assertEqual(self.told(places_in, ("a", "b"), floor), [(0, 0), (2, 2)])
        self.assertEqual(self.told(places_in, ("ab", "ab"), floor), [(1, 2)])
        self.assertEqual(self.told(places_in, ("c",), floor), [(0, 2), (0, 3), (2, 0), (2, 1)])
        self.assertEqual(self.told(places_in, ("bb", "ac"), floor), [])
        self.assertEqual(self.told(times_in, ("ab",), floor), 4)
        self.assertEqual(self.told(times_in, ("bb", "ac"), floor), 0)

    def test_places_that_share_tiles(self):
        self.assertEqual(self.told(places_in, ("aa",), ("aaaa",)), [(0, 0), (0, 1), (0, 2)])
        self.assertEqual(self.told(places_in, ("aba",), ("ababab",)), [(0, 0), (0, 2)])
        self.assertEqual(self.told(places_in, ("a", "a", "a"), ("a",) * 5), [(0, 0), (1, 0), (2, 0)])
        self.assertEqual(self.told(places_in, ("aa", "aa"), even_floor(3, 3)), [(0, 0), (0, 1), (1, 0), (1, 1)])
        self.assertEqual(self.told(times_in, ("aaa",) * 3, even_floor(64, 64)), 62 * 62)
        self.assertEqual(self.told(times_in, ("a",), even_floor(64, 64)), 64 * 64)

    def test_as_great_as_the_floor_and_greater(self):
        for rows, columns in SHAPES:
            piece = tuple("abcabc"[row:row + columns] for row in range(rows))
            self.assertEqual(self.told(places_in, piece, piece), [(0, 0)])
            self.assertEqual(self.told(times_in, piece, piece), 1)
            self.assertEqual(self.told(places_in, piece, tuple("z" * columns for row in piece)), [])
            if rows > 1:
                self.assertEqual(self.told(places_in, piece, piece[:-1]), [])
                self.assertEqual(self.told(times_in, piece, piece[1:]), 0)
                self.assertEqual(self.told(places_in, piece, (piece[0] * 9,)), [])
            if columns > 1:
                self.assertEqual(self.told(places_in, piece, tuple(row[:-1] for row in piece)), [])
                self.assertEqual(self.told(times_in, piece, tuple(row[:1] for row in piece) * 3), 0)
        self.assertEqual(self.told(places_in, ("aaa",) * 3, ("a",)), [])
        self.assertEqual(self.told(times_in, ("aaa",) * 3, ("aa", "aa")), 0)

    def test_against_looking_at_each_place(self):
        for rule in MANY_RULES:
            for growings in laid_sizes(rule, 150):
                floor = laid_far(rule, tiles_of(rule)[0], growings)
                if max(len(floor), len(floor[0])) > 64:
                    continue
                for rows, columns in SHAPES:
                    for piece, places in pieces_by_hand(floor, rows, columns).items():
                        self.assertEqual(places_in(piece, floor), places)
                        self.assertEqual(times_in(piece, floor), len(places))


class TimesFarTest(Asker):
    def test_ordinary_pieces(self):
        self.assertEqual(self.told(times_far, STRIPE, "a", 3, ("ab",)), 3)
        self.assertEqual(self.told(times_far, STRIPE, "a", 3, ("bb",)), 1)
        self.assertEqual(self.told(times_far, STRIPE, "a", 3, ("aba",)), 1)
        self.assertEqual(self.told(times_far, CHESS, "a", 2, ("ab", "ab")), 1)
        self.assertEqual(self.told(times_far, CHESS, "a", 2, ("ab",)), 4)

    def test_each_piece_of_laid_floors(self):
        for rule in MANY_RULES:
            for growings in laid_sizes(rule, 300):
                tile = tiles_of(rule)[-1]
                floor = laid_far(rule, tile, growings)
                for rows, columns in SHAPES:
                    for piece, places in sorted(pieces_by_hand(floor, rows, columns).items())[:12]:
                        self.assertEqual(times_far(rule, tile, growings, piece), len(places), (rule, growings, piece))

    def test_each_piece_that_there_may_be(self):
        for rule in (CHESS, STRIPE, TOWER, FLAT, LONELY):
            for growings in laid_sizes(rule, 260):
                for tile in tiles_of(rule):
                    floor = laid_far(rule, tile, growings)
                    for rows, columns in ((1, 1), (1, 2), (2, 1), (1, 3), (3, 1), (2, 2)):
                        found = pieces_by_hand(floor, rows, columns)
                        for piece in all_pieces("abc", rows, columns):
                            self.assertEqual(times_far(rule, tile, growings, piece), len(found.get(piece, [])))

    def test_great_pieces_that_do_not_stand_there(self):
        for rule in (CHESS, FLAT, even_rule(2, 2, "ab")):
            for growings in laid_sizes(rule, 300):
                found = pieces_by_hand(laid_far(rule, "a", growings), 3, 3)
                for piece in all_pieces("ab", 3, 3)[::5]:
                    self.assertEqual(times_far(rule, "a", growings, piece), len(found.get(piece, [])))

    def test_no_growings(self):
        for rule in MANY_RULES:
            for tile in tiles_of(rule):
                for other in tiles_of(rule):
                    self.assertEqual(times_far(rule, tile, 0, (other,)), int(tile == other))
                for rows, columns in SHAPES[1:]:
                    self.assertEqual(times_far(rule, tile, 0, (tile * columns,) * rows), 0)

    def test_after_200_growings(self):
        even = even_rule(4, 4)
        side = 4 ** 200
        for rows, columns in SHAPES:
            expected = (side - rows + 1) * (side - columns + 1)
            self.assertEqual(self.told(times_far, even, "a", 200, even_floor(rows, columns)), expected)
        # The places of two unlike tiles in the row of Thue and Morse: a third of all, but for the rounding.
        row = (1, 2, (("a", ("ab",)), ("b", ("ba",))))
        self.assertEqual(times_far(row, "a", 200, ("aa",)) + times_far(row, "a", 200, ("bb",)), (2 ** 200 - 1) // 3)
        self.assertEqual(times_far(row, "a", 200, ("aaa",)), 0)
        self.assertEqual(times_far(row, "a", 200, ("a", "b")), 0)
        self.assertEqual(self.told(times_far, LONELY, "a", 200, ("a",)), 1)
        self.assertEqual(self.told(times_far, LONELY, "a", 200, ("ab", "bb")), 1)
        self.assertEqual(self.told(times_far, LONELY, "a", 200, ("bbb",) * 3), (2 ** 200 - 2) ** 2 - 1)
        self.assertEqual(self.told(times_far, TURNS, "a", 200, ("ccc",)), 3 ** 200 - 2)
        self.assertEqual(self.told(times_far, TURNS, "a", 199, ("ccc",)), 0)

    def test_all_pieces_of_a_shape_after_200_growings(self):
        for rule in (CHESS, STRIPE, TOWER, FLAT, PARTED):
            side = [max(rule[0] ** 200 - lesser, 0) for lesser in range(3)]
            across = [max(rule[1] ** 200 - lesser, 0) for lesser in range(3)]
            tiles = tiles_of(rule)
            for rows, columns in ((1, 1), (1, 2), (2, 1), (2, 2), (1, 3), (3, 1)):
                if len(tiles) ** (rows * columns) > 200:
                    continue
                times = sum(times_far(rule, "a", 200, piece) for piece in all_pieces(tiles, rows, columns))
                self.assertEqual(times, side[rows - 1] * across[columns - 1])

    def test_the_greatest_rules(self):
        for rule in GREAT_RULES:
            for rows, columns in ((1, 1), (1, 3), (3, 1), (2, 2), (3, 3)):
                piece = cut_far(rule, "k", 60, 4 ** 50 - 1, 4 ** 40 - 1, rows, columns)
                times = self.told(times_far, rule, "k", 200, piece)
                # In each floor of 60 growings of this tile it stands at least once.
                self.assertGreaterEqual(times, dict(tile_counts(rule, "k", 140))["k"])
                self.assertLess(times, 16 ** 200)
            for growings in (1, 2, 3):
                floor = grown_often(rule, ("k",), growings)
                for rows, columns in ((2, 2), (3, 3), (2, 3)):
                    if rows <= len(floor):
                        piece = tuple(row[1:1 + columns] for row in floor[1:1 + rows])
                        self.assertEqual(times_far(rule, "k", growings, piece), times_in(piece, floor))

    def test_tiles_that_the_rule_lacks(self):
        for growings in (0, 1, 2, 200):
            for piece in (("z",), ("az",), ("a", "z"), ("aza", "aaa", "aaa"), ("aaa", "aaa", "aaz"), ("zz", "zz")):
                self.assertEqual(self.told(times_far, CHESS, "a", growings, piece), 0)

    def test_no_floor(self):
        things = odd_things() + [
            "a", ["a"], ("a", "ab"), ("aaaa",), ("a",) * 4, ("aaa",) * 4, ("aaaa",) * 3, ("",), (), ("A",), ("a ",),
            ("abc", "ab"), (("a",),), (["a"],), (None,), ("ab", 1), even_floor(64, 64), even_floor(65, 1),
        ]
        for thing in things:
            for growings in (0, 3, 200):
                self.refused(NoFloor, times_far, CHESS, "a", growings, thing)

    def test_no_tile_goes_ahead_of_no_floor(self):
        for thing in odd_things() + ["d", "z", "ab", ("a",)]:
            self.no_tile(thing, times_far, CHESS, thing, 3, ("a",))
            self.no_tile(thing, times_far, CHESS, thing, 3, thing)
            self.no_tile(thing, times_far, CHESS, thing, 3, None)
            self.no_tile(thing, times_far, CHESS, thing, 0, ("aaaa",))


class CrossingsTest(Asker):
    def test_ordinary_floors(self):
        self.assertEqual(self.told(crossings, STRIPE, "a", 2), [
            (("a",), 2), (("ab",), 1), (("b",), 2), (("ba",), 1), (("bb",), 1),
        ])
        self.assertEqual(self.told(crossings, CHESS, "a", 1), [
            (("a",), 2), (("a", "b"), 1), (("ab",), 1), (("ab", "ba"), 1), (("b",), 2), (("b", "a"), 1), (("ba",), 1),
        ])

    def test_no_growings(self):
        for rule in MANY_RULES + GREAT_RULES:
            for tile in tiles_of(rule):
                self.assertEqual(self.told(crossings, rule, tile, 0), [((tile,), 1)])

    def test_against_laid_floors(self):
        for rule in MANY_RULES:
            for growings in laid_sizes(rule, 1100):
                for tile in tiles_of(rule)[:3]:
                    expected = crossings_by_hand(laid_far(rule, tile, growings))
                    self.assertEqual(crossings(rule, tile, growings), expected)

    def test_the_greatest_rules_against_laid_floors(self):
        for rule in GREAT_RULES:
            for growings in (1, 2, 3):
                expected = crossings_by_hand(laid_far(rule, "e", growings))
                self.assertEqual(self.told(crossings, rule, "e", growings), expected)

    def test_after_200_growings(self):
        for rule in (CHESS, STRIPE, TOWER, FLAT, PARTED, LONELY, TURNS):
            told = self.told(crossings, rule, tiles_of(rule)[0], 200)
            self.assertEqual([piece for piece, many in told], sorted({piece for piece, many in told}))
            for piece, many in told:
                self.assertGreater(many, 0)
                self.assertEqual(many, times_far(rule, tiles_of(rule)[0], 200, piece))
        self.assertEqual(self.told(crossings, TURNS, "a", 200), [(("c",), 3 ** 200), (("cc",), 3 ** 200 - 1)])
        side = 2 ** 200
        self.assertEqual(self.told(crossings, even_rule(2, 2), "a", 200), [
            (("a",), side ** 2), (("a", "a"), side * (side - 1)), (("aa",), side * (side - 1)),
            (("aa", "aa"), (side - 1) ** 2),
        ])

    def test_the_greatest_rules_after_200_growings(self):
        for rule in GREAT_RULES:
            told = self.told(crossings, rule, "q", 200)
            side = 4 ** 200
            sums = {}
            for piece, many in told:
                shape = (len(piece), len(piece[0]))
                sums[shape] = sums.get(shape, 0) + many
            self.assertEqual(sums, {
                (rows, columns): (side - rows + 1) * (side - columns + 1) for rows in (1, 2) for columns in (1, 2)
            })
            self.assertEqual(told, sorted(told))
            for piece, many in told[::len(told) // 3]:
                self.assertEqual(times_far(rule, "q", 200, piece), many)

    def test_corners_that_come_late_and_turn_long(self):
        # Where four blocks meet the tiles take turns of 5 and of 3, so that 15 growings pass before one comes again.
        order = dict(zip("abcde", "bcdea"))
        other = dict(zip("fgh", "ghf"))
        blocks = []
        for tile in "abcde":
            blocks.append((tile, (order[tile] + "f", "f" + order[tile])))
        for tile in "fgh":
            blocks.append((tile, ("a" + other[tile], other[tile] + "a")))
        rule = (2, 2, tuple(blocks))
        for growings in range(6):
            expected = crossings_by_hand(laid_far(rule, "a", growings))
            self.assertEqual(crossings(rule, "a", growings), expected)
        for growings in (40, 41, 200):
            told = crossings(rule, "a", growings)
            squares = sum(many for piece, many in told if len("".join(piece)) == 4)
            self.assertEqual(squares, (2 ** growings - 1) ** 2)

    def test_rules_of_one_row_or_one_column(self):
        for piece, many in self.told(crossings, STRIPE, "a", 200):
            self.assertEqual(len(piece), 1)
        for piece, many in self.told(crossings, TOWER, "a", 200):
            self.assertEqual(len(piece[0]), 1)

    def test_no_tile(self):
        for thing in odd_things() + ["d", "z", "ab", ("a",), ["a"]]:
            self.no_tile(thing, crossings, CHESS, thing, 0)
            self.no_tile(thing, crossings, CHESS, thing, 200)


class ConsequencesTest(Asker):
    def test_all_pieces_of_a_shape_come_together(self):
        for rule in MANY_RULES:
            for growings in (0, 1, 2, 200):
                rows, columns = rule[0] ** growings, rule[1] ** growings
                sums = {}
                for piece, many in crossings(rule, tiles_of(rule)[0], growings):
                    shape = (len(piece), len(piece[0]))
                    sums[shape] = sums.get(shape, 0) + many
                for high, wide in ((1, 1), (1, 2), (2, 1), (2, 2)):
                    expected = max(rows - high + 1, 0) * max(columns - wide + 1, 0)
                    self.assertEqual(sums.get((high, wide), 0), expected)

    def test_a_piece_turned_in_the_floor_turned(self):
        for rule in (CHESS, FLAT, STRIPE, TOWER, LONELY):
            for growings in (0, 1, 2, 3, 50):
                for piece in (("a",), ("ab",), ("b", "a"), ("ab", "ba"), ("abc",), ("aab", "ccb"), ("cc", "ab", "ba"),
                              ("abb", "baa", "cca")):
                    times = times_far(rule, "a", growings, piece)
                    self.assertEqual(times_far(turned_rule(rule), "a", growings, turned_floor(piece)), times)
                    self.assertEqual(times_far(mirrored_rule(rule), "a", growings, mirrored_floor(piece)), times)
        floor = cut_far(CHESS, "b", 60, 12345, 54321, 40, 64)
        for rows, columns in SHAPES:
            for piece, places in pieces_by_hand(floor, rows, columns).items():
                turned = places_in(turned_floor(piece), turned_floor(floor))
                self.assertEqual(turned, sorted((column, row) for row, column in places))

    def test_a_piece_of_one_tile(self):
        for rule in MANY_RULES:
            for growings in (0, 1, 3, 200):
                for tile, many in tile_counts(rule, tiles_of(rule)[0], growings):
                    self.assertEqual(times_far(rule, tiles_of(rule)[0], growings, (tile,)), many)
        for tile, many in tile_counts(GREAT_RULES[1], "a", 200):
            self.assertEqual(times_far(GREAT_RULES[1], "a", 200, (tile,)), many)


class SameAnswerTest(Asker):
    def test_whatever_was_asked_in_between(self):
        questions = [
            (times_far, CHESS, "a", 9, ("ab", "ba")), (crossings, CHESS, "b", 9), (crossings, PARTED, "z", 9),
            (places_in, ("ab",), ("abab", "baba")), (times_in, ("ab",), ("abab", "baba")),
            (times_far, PARTED, "z", 9, ("a", "b")),
        ]
        before = copy.deepcopy(questions)
        first = [asked(*handed) for asked, *handed in questions]
        again = [asked(*handed) for asked, *handed in reversed(questions)]
        self.assertEqual(again, first[::-1])
        self.assertEqual(questions, before)

    def test_lists_that_were_told_are_the_askers_own(self):
        places = places_in(("ab",), ("abab",))
        places.append((7, 7))
        self.assertEqual(places_in(("ab",), ("abab",)), [(0, 0), (0, 2)])
        told = crossings(CHESS, "a", 1)
        told.clear()
        self.assertEqual(len(crossings(CHESS, "a", 1)), 7)


if __name__ == "__main__":
    unittest.main()
