"""6.1 to 6.6: the way back, and 0.2, 0.3, 0.4 as far as they speak of it."""

import copy
import itertools
import unittest

from samples import (
    ALPHABET, CHESS, FLAT, GREAT_RULES, LONELY, MANY_RULES, PARTED, STRIPE, TOWER, TURNS, Asker, cut_by_hand,
    even_floor, even_rule, grown_by_hand, laid_far, laid_sizes, odd_numbers, odd_things, pieces_by_hand, tangled_rule,
    tiles_of,
)
from tilegrow.coming import comes_at
from tilegrow.errors import TooGreat
from tilegrow.far import cut_far
from tilegrow.pieces import times_far
from tilegrow.rules import turned_rule
from tilegrow.ways import (
    back_list, cuttings, never_holds, never_of, offsets_of, way_holds, way_of, way_place, ways_count,
)

SOME_RULES = [CHESS, STRIPE, TOWER, FLAT, LONELY, PARTED, TURNS, even_rule(2, 2), even_rule(3, 1)] + [
    tangled_rule(high, wide, "ab", high + 4 * wide) for high in (1, 2, 3, 4) for wide in (1, 2, 3, 4) if high + wide > 2
]


def swapping_rule(many):
    """One row of two tiles: by the first the tiles a and b swap, by the other all go round; so all orders come."""
    tiles = ALPHABET[:many]
    swapped = "ba" + tiles[2:]
    return (1, 2, tuple((tile, (swapped[number] + tiles[(number + 1) % many],)) for number, tile in enumerate(tiles)))


def alike_rule(high, wide, many):
    """All tiles have the same block, of the tile a alone."""
    return (high, wide, tuple((tile, even_floor(high, wide)) for tile in ALPHABET[:many]))


def lesser_shapes(rule, floor):
    """All (i, j) with how many rows and columns a lesser floor must have: as few as hold the floor from there on."""
    for i in range(rule[0]):
        for j in range(rule[1]):
            rows = min(number for number in range(1, 99) if number * rule[0] >= i + len(floor))
            columns = min(number for number in range(1, 99) if number * rule[1] >= j + len(floor[0]))
            yield i, j, rows, columns


def cuttings_of_all(rule, floor):
    """6.1 word by word, by looking at all lesser floors."""
    found = []
    for i, j, rows, columns in lesser_shapes(rule, floor):
        texts = ["".join(tiles) for tiles in itertools.product(tiles_of(rule), repeat=columns)]
        for lesser in itertools.product(texts, repeat=rows):
            if cut_by_hand(grown_by_hand(rule, lesser), i, j, len(floor), len(floor[0])) == floor:
                found.append((i, j, lesser))
    return sorted(found)


def tile_may_be(rule, floor, top, left):
    """The tiles whose block, laid from (top, left) on, has nothing else than the floor where both lie."""
    found = []
    for tile, block in rule[2]:
        if all(
            block[down][right] == floor[top + down][left + right]
            for down in range(rule[0]) for right in range(rule[1])
            if 0 <= top + down < len(floor) and 0 <= left + right < len(floor[0])
        ):
            found.append(tile)
    return found


def cuttings_by_hand(rule, floor):
    """The same, tile by tile, for floors of which all lesser ones are too many to look at."""
    found = []
    for i, j, rows, columns in lesser_shapes(rule, floor):
        choices = [
            tile_may_be(rule, floor, row * rule[0] - i, column * rule[1] - j)
            for row in range(rows) for column in range(columns)
        ]
        many = 1
        for choice in choices:
            many *= len(choice)
        if many > 5000:
            return None
        for tiles in itertools.product(*choices):
            text = "".join(tiles)
            found.append((i, j, tuple(text[row * columns:][:columns] for row in range(rows))))
    return sorted(found)


def back_by_hand(rule, floor):
    """6.2 word by word: the list, or what it is refused with."""
    floors = [floor]
    number = 0
    while number < len(floors):
        found = cuttings_by_hand(rule, floors[number])
        if len(found) > 300:
            return (len(found), 300)
        for i, j, lesser in found:
            if lesser not in floors:
                if len(floors) == 600:
                    return (601, 600)
                floors.append(lesser)
        number += 1
    return floors


def sample_floors(rule):
    tile = tiles_of(rule)[0]
    floors = [(other,) for other in tiles_of(rule)[:3]]
    for growings in laid_sizes(rule, 300):
        laid = laid_far(rule, tile, growings)
        for rows, columns in ((1, 2), (2, 1), (2, 2), (3, 2), (1, 4), (4, 1)):
            floors += list(pieces_by_hand(laid, rows, columns))[:2]
    tiles = "".join(tiles_of(rule))
    floors += [((tiles * 3)[:2],), tuple((tiles[::-1] * 3)[:2]), ((tiles * 2)[:2], (tiles[::-1] * 2)[:2])]
    return sorted(set(floors))


class CuttingsTest(Asker):
    def test_ordinary_floors(self):
        self.assertEqual(self.told(cuttings, STRIPE, ("a",)), [(0, 0, ("a",)), (0, 1, ("b",))])
        self.assertEqual(self.told(cuttings, STRIPE, ("ab",)), [(0, 0, ("a",)), (0, 1, ("bb",))])
        self.assertEqual(self.told(cuttings, STRIPE, ("cc",)), [(0, 0, ("c",)), (0, 1, ("cc",))])
        self.assertEqual(self.told(cuttings, STRIPE, ("aba",)), [(0, 0, ("aa",)), (0, 1, ("bb",))])
        self.assertEqual(self.told(cuttings, STRIPE, ("abb",)), [(0, 0, ("ab",))])
        self.assertEqual(self.told(cuttings, STRIPE, ("aaa",)), [])
        self.assertEqual(self.told(cuttings, CHESS, ("ab", "ba")), [
            (0, 0, ("a",)), (1, 1, ("aa", "aa")), (1, 1, ("ac", "aa")),
        ])

    def test_against_looking_at_all_lesser_floors(self):
        for rule in SOME_RULES:
            for floor in sample_floors(rule):
                most = max(rows * columns for i, j, rows, columns in lesser_shapes(rule, floor))
                if len(rule[2]) ** most <= 700:
                    self.assertEqual(self.told(cuttings, rule, floor), cuttings_of_all(rule, floor))

    def test_tile_by_tile(self):
        for rule in MANY_RULES:
            for floor in sample_floors(rule):
                expected = cuttings_by_hand(rule, floor)
                if expected is not None and len(expected) <= 300:
                    self.assertEqual(cuttings(rule, floor), expected)

    def test_great_floors(self):
        for rule in [CHESS, STRIPE, TOWER, FLAT, PARTED] + GREAT_RULES:
            rows, columns = min(8, rule[0] ** 60), min(8, rule[1] ** 60)
            tile = tiles_of(rule)[2]
            floor = cut_far(rule, tile, 60, rule[0] ** 59 // 3, rule[1] ** 59 // 7, rows, columns)
            expected = cuttings_by_hand(rule, floor)
            self.assertEqual(self.told(cuttings, rule, floor), expected)
            self.assertTrue(expected)
            changed = (floor[0][:-1] + tiles_of(rule)[0],) + floor[1:]
            self.assertEqual(self.told(cuttings, rule, changed), cuttings_by_hand(rule, changed))
        self.assertEqual(self.told(cuttings, even_rule(2, 2), even_floor(8, 8)), [
            (0, 0, even_floor(4, 4)), (0, 1, even_floor(4, 5)), (1, 0, even_floor(5, 4)), (1, 1, even_floor(5, 5)),
        ])

    def test_floors_that_blocks_of_one_row_do_not_lessen(self):
        self.assertEqual(self.told(cuttings, STRIPE, ("ab", "ba")), [(0, 0, ("a", "b")), (0, 1, ("bb", "aa"))])
        self.assertEqual(self.told(cuttings, even_rule(1, 4), even_floor(8, 1)), [
            (0, j, even_floor(8, 1)) for j in range(4)
        ])

    def test_the_list_rises(self):
        for rule in MANY_RULES:
            for floor in sample_floors(rule)[:12]:
                found = cuttings(rule, floor)
                self.assertEqual(found, sorted(set(found)))

    def test_just_300_and_beyond(self):
        # 12 for the place 0, and 12 * 12 for each of the other two.
        found = self.told(cuttings, alike_rule(1, 3, 12), ("aaa",))
        self.assertEqual(len(found), 300)
        self.assertEqual(found, cuttings_by_hand(alike_rule(1, 3, 12), ("aaa",)))
        self.assertEqual(self.told(offsets_of, alike_rule(1, 3, 12), ("aaa",)), [(0, 0), (0, 1), (0, 2)])
        for asked in (cuttings, offsets_of, back_list):
            self.too_great(13 + 2 * 169, 300, asked, alike_rule(1, 3, 13), ("aaa",))
            self.too_great(16 * 19, 300, asked, alike_rule(4, 4, 19), ("a",))
        self.assertEqual(len(self.told(cuttings, alike_rule(4, 4, 18), ("a",))), 288)
        great = self.refused(TooGreat, cuttings, alike_rule(2, 2, 26), even_floor(8, 8))
        self.assertEqual((great.many, great.most), (26 ** 16 + 2 * 26 ** 20 + 26 ** 25, 300))
        near = (1, 3, alike_rule(1, 3, 12)[2] + (("m", ("amm",)),))
        self.too_great(312, 300, cuttings, near, ("aaa",))

    def test_some_fit_often_but_the_floor_nowhere(self):
        # All tiles but one place have 26 choices, this one has none.
        rule = (1, 2, alike_rule(1, 2, 25)[2] + (("z", ("za",)),))
        self.assertEqual(self.told(cuttings, rule, ("aaaaaazz",)), [])
        self.assertEqual(self.told(back_list, rule, ("aaaaaazz",)), [("aaaaaazz",)])


class OffsetsOfTest(Asker):
    def test_ordinary_floors(self):
        self.assertEqual(self.told(offsets_of, STRIPE, ("abb",)), [(0, 0)])
        self.assertEqual(self.told(offsets_of, STRIPE, ("baa",)), [(0, 0)])
        self.assertEqual(self.told(offsets_of, STRIPE, ("bab",)), [(0, 0), (0, 1)])
        self.assertEqual(self.told(offsets_of, STRIPE, ("aaa",)), [])
        self.assertEqual(self.told(offsets_of, even_rule(2, 3), ("a",)), [(i, j) for i in range(2) for j in range(3)])

    def test_each_once_rising(self):
        for rule in MANY_RULES:
            for floor in sample_floors(rule)[:15]:
                expected = sorted({(i, j) for i, j, lesser in cuttings(rule, floor)})
                self.assertEqual(self.told(offsets_of, rule, floor), expected)


class BackListTest(Asker):
    def like_by_hand(self, rule, floor):
        """The list, or what it is refused with, is as 6.2 tells; told is which of the two."""
        expected = back_by_hand(rule, floor)
        if isinstance(expected, list):
            self.assertEqual(self.told(back_list, rule, floor), expected)
            return "list"
        self.too_great(*expected, back_list, rule, floor)
        return expected[1]

    def test_ordinary_floors(self):
        self.assertEqual(self.told(back_list, STRIPE, ("a",)), [("a",), ("b",)])
        self.assertEqual(self.told(back_list, STRIPE, ("b",)), [("b",), ("a",)])
        self.assertEqual(self.told(back_list, STRIPE, ("c",)), [("c",)])
        self.assertEqual(self.told(back_list, STRIPE, ("abb",)), [("abb",), ("ab",), ("a",), ("bb",), ("b",)])
        self.assertEqual(self.told(back_list, STRIPE, ("aaa",)), [("aaa",)])
        self.assertEqual(self.told(back_list, even_rule(2, 2), even_floor(3, 3)), [
            even_floor(3, 3), even_floor(2, 2), ("a",), ("aa",), ("a", "a"),
        ])

    def test_in_its_order(self):
        for rule in SOME_RULES:
            for floor in sample_floors(rule):
                self.like_by_hand(rule, floor)

    def test_a_floor_of_the_list_with_too_many_cuttings(self):
        # The floor has one cutting, to aaa; this has 13 and twice 13 * 13.
        alike = tuple((tile, ("aaa",)) for tile in "bcdefghijklmn")
        rule = (1, 3, (("a", ("opq",)),) + alike + (("o", ("ooo",)), ("p", ("ppp",)), ("q", ("qqq",))))
        self.assertEqual(self.told(cuttings, rule, ("opqopqop",)), [(0, 0, ("aaa",))])
        for asked, tile in ((back_list, ()), (way_of, ("b",)), (never_of, ("b",)), (never_of, ("o",))):
            self.too_great(351, 300, asked, rule, *tile, ("opqopqop",))
        for floor in (("op",), ("o",), ("qop",), ("pqopqopq",), ("qopqopqo",), ("aaaa",), ("ooo",), ("oq",), ("pp",)):
            self.like_by_hand(rule, floor)
        # Of two that have too many, the one goes that comes first in the list's order.
        blocks = [("a", ("cd",)), ("b", ("ce",))]
        blocks += [(tile, ("aa",)) for tile in ALPHABET[2:20]] + [(tile, ("bb",)) for tile in ALPHABET[20:]]
        both = (1, 2, tuple(blocks))
        for floor in (("cdcd",), ("cece",), ("dc",), ("ec",), ("c",), ("d",), ("cd",), ("dcdc",)):
            self.like_by_hand(both, floor)

    def test_600_floors_and_a_601st(self):
        rule = swapping_rule(25)
        found = self.told(back_list, rule, ("a", "b"))
        self.assertEqual(len(found), 600)
        self.assertEqual(sorted(found), [(one, two) for one in ALPHABET[:25] for two in ALPHABET[:25] if one != two])
        self.assertEqual(found, back_by_hand(rule, ("a", "b")))
        self.too_great(601, 600, back_list, swapping_rule(26), ("a", "b"))
        self.assertEqual(len(self.told(back_list, turned_rule(rule), ("ab",))), 600)
        self.too_great(601, 600, back_list, turned_rule(swapping_rule(26)), ("ab",))
        # As soon as there would be one: floors behind it are not looked at.
        self.too_great(601, 600, back_list, swapping_rule(26), ("a", "b", "c"))

    def test_refusals_of_tangled_rules(self):
        met = set()
        for high, wide, many, seed, floor in (
            (1, 2, 6, 0, ("dd", "cd")), (1, 2, 6, 14, tuple("ffebbeff")), (1, 3, 6, 4, tuple("cbbccffc")),
            (4, 1, 8, 18, ("dcddfdhd",)), (4, 2, 6, 18, ("bb", "df")), (1, 2, 8, 27, ("be", "fe")),
        ):
            rule = tangled_rule(high, wide, ALPHABET[:many], seed)
            met.add(self.like_by_hand(rule, floor))
            expected = back_by_hand(rule, floor)
            if isinstance(expected, tuple):
                for tile in "ab":
                    self.too_great(*expected, way_of, rule, tile, floor)
                    self.too_great(*expected, ways_count, rule, tile, floor, 3)
        self.assertEqual(met, {"list", 300, 600})

    def test_the_greatest_rules(self):
        met = set()
        for rule in GREAT_RULES:
            for place in (12345, 4 ** 59 + 54321, 4 ** 59 + 2, 4 ** 58 - 4):
                met.add(self.like_by_hand(rule, cut_far(rule, "a", 60, place, place, 8, 8)))
        self.assertEqual(met, {"list", 600})


class WayHoldsTest(Asker):
    def test_ways_by_anybody(self):
        self.yes(way_holds, STRIPE, "a", ("a",), ())
        self.no(way_holds, STRIPE, "b", ("a",), ())
        self.no(way_holds, STRIPE, "a", ("ab",), ())
        self.yes(way_holds, STRIPE, "a", ("ab",), ((0, 0, ("a",)),))
        self.yes(way_holds, STRIPE, "a", ("bb",), ((0, 1, ("ab",)), (0, 0, ("a",))))
        self.yes(way_holds, STRIPE, "a", ("a",), ((0, 0, ("a",)),) * 70)
        self.yes(way_holds, STRIPE, "b", ("a",), ((0, 1, ("b",)),))
        self.no(way_holds, STRIPE, "a", ("a",), ((0, 1, ("b",)),))
        self.no(way_holds, STRIPE, "b", ("ab",), ((0, 0, ("a",)),))

    def test_what_was_told_holds(self):
        for rule in SOME_RULES:
            for floor in sample_floors(rule):
                for tile in tiles_of(rule)[:3]:
                    way = way_of(rule, tile, floor)
                    if way is not None:
                        self.yes(way_holds, rule, tile, floor, way)
                        for other in tiles_of(rule):
                            self.assertIs(way_holds(rule, other, floor, way), other == tile)

    def test_one_cutting_left_out_told_twice_or_changed(self):
        floor = cut_far(CHESS, "a", 9, 200, 100, 5, 6)
        way = way_of(CHESS, "a", floor)
        self.assertGreater(len(way), 3)
        self.yes(way_holds, CHESS, "a", floor, way)
        for number, (i, j, lesser) in enumerate(way):
            ahead, behind = way[:number], way[number + 1:]
            for other in (ahead + behind, ahead + ((i, j, lesser),) + way[number:]):
                self.assertIs(self.told(way_holds, CHESS, "a", floor, other), self.by_hand(CHESS, "a", floor, other))
            for cutting in ((1 - i, j, lesser), (i, 1 - j, lesser), (i, j, lesser + (lesser[0],)), (i, j, lesser[:-1]),
                            (i, j, tuple(row + "a" for row in lesser)), (i, j, tuple(row[1:] for row in lesser)),
                            (i, j, list(lesser)), [i, j, lesser], (i, j), (i, j, lesser, lesser), (j, lesser),
                            (i, j, "".join(lesser)), (bool(i), j, lesser), (i, bool(j), lesser), (i + 2, j, lesser),
                            (i, j - 2, lesser), None):
                self.no(way_holds, CHESS, "a", floor, ahead + (cutting,) + behind)
        self.no(way_holds, CHESS, "a", floor, ())
        self.no(way_holds, CHESS, "a", floor, list(way))
        self.no(way_holds, CHESS, "a", floor, way[::-1])
        self.no(way_holds, CHESS, "a", floor, way + way)

    def by_hand(self, rule, tile, floor, way):
        for cutting in way:
            if cutting not in cuttings_by_hand(rule, floor):
                return False
            floor = cutting[2]
        return floor == (tile,)

    def test_lesser_floors_must_take_just_what_is_needed(self):
        self.yes(way_holds, even_rule(2, 2), "a", ("a",), ((1, 1, ("a",)),))
        self.no(way_holds, even_rule(2, 2), "a", ("a",), ((0, 0, ("aa",)), (0, 0, ("a",))))
        self.no(way_holds, even_rule(2, 2), "a", ("a",), ((0, 0, ("a", "a")), (0, 0, ("a",))))
        self.yes(way_holds, even_rule(2, 2), "a", ("aa",), ((0, 1, ("aa",)), (0, 0, ("a",))))
        self.no(way_holds, even_rule(2, 2), "a", ("aa",), ((0, 1, ("a",)),))
        # The floor stands there, too, but i and j go to high - 1 and wide - 1.
        self.no(way_holds, even_rule(2, 2), "a", ("a",), ((2, 0, ("a", "a")), (0, 0, ("a",))))
        self.no(way_holds, even_rule(2, 2), "a", ("a",), ((0, 2, ("aa",)), (0, 0, ("a",))))
        self.no(way_holds, STRIPE, "b", ("ab",), ((0, 2, ("aa",)), (0, 1, ("ba",)), (0, 0, ("b",))))
        self.yes(way_holds, STRIPE, "b", ("aa",), ((0, 1, ("ba",)), (0, 0, ("b",))))

    def test_tiles_that_the_rule_lacks(self):
        self.no(way_holds, STRIPE, "a", ("ab",), ((0, 0, ("z",)),))
        self.no(way_holds, STRIPE, "a", ("ab",), ((0, 1, ("bz",)),))

    def test_whatever_is_handed_in(self):
        for thing in odd_things():
            self.assertIs(way_holds(STRIPE, "a", ("a",), thing), thing == ())
            self.no(way_holds, STRIPE, "a", ("ab",), thing)
            self.no(way_holds, STRIPE, "a", ("ab",), (thing,))
            self.no(way_holds, STRIPE, "a", ("ab",), ((0, 0, thing),))
            self.no(way_holds, STRIPE, "a", ("ab",), ((0, 0, (thing,)),))
            self.no(way_holds, STRIPE, "a", ("ab",), ((0, 0, ("a",)), thing))
        for thing in odd_numbers(0, 0):
            self.no(way_holds, STRIPE, "a", ("ab",), ((thing, 0, ("a",)),))
            self.no(way_holds, STRIPE, "a", ("ab",), ((0, thing, ("a",)),))

    def test_a_way_that_cuts_many_times(self):
        # Floors with more than 300 cuttings may stand in a way.
        rule = alike_rule(4, 4, 19)
        self.yes(way_holds, rule, "s", ("a",), ((3, 3, ("s",)),))
        self.yes(way_holds, rule, "s", ("a",), ((3, 3, ("a",)),) * 80 + ((0, 2, ("s",)),))


class WayOfTest(Asker):
    def test_as_few_cuttings_as_can_be(self):
        for rule in SOME_RULES:
            for tile in tiles_of(rule)[:2]:
                for floor in sample_floors(rule):
                    way = self.told(way_of, rule, tile, floor)
                    first = comes_at(rule, tile, floor) if len(floor) < 4 and len(floor[0]) < 4 else None
                    if way is None:
                        self.assertIsNone(first)
                    elif len(floor) < 4 and len(floor[0]) < 4:
                        self.assertEqual(len(way), first[0])
                    else:
                        for growings in laid_sizes(rule, 2000)[:len(way)]:
                            laid = laid_far(rule, tile, growings)
                            self.assertNotIn(floor, pieces_by_hand(laid, len(floor), len(floor[0])))

    def test_none_where_there_is_none(self):
        self.assertIsNone(self.told(way_of, STRIPE, "a", ("c",)))
        self.assertIsNone(self.told(way_of, STRIPE, "a", ("aaa",)))
        self.assertIsNone(self.told(way_of, STRIPE, "a", ("a", "b")))
        self.assertIsNone(self.told(way_of, LONELY, "b", ("a",)))
        self.assertEqual(self.told(way_of, STRIPE, "a", ("a",)), ())

    def test_refused_as_back_list_is(self):
        self.too_great(304, 300, way_of, alike_rule(4, 4, 19), "a", ("a",))
        self.too_great(304, 300, ways_count, alike_rule(4, 4, 19), "a", ("a",), 0)
        self.too_great(304, 300, never_of, alike_rule(4, 4, 19), "a", ("a",))
        self.too_great(601, 600, way_of, swapping_rule(26), "a", ("a", "b"))
        self.too_great(601, 600, ways_count, swapping_rule(26), "a", ("a", "b"), 60)

    def test_8_rows_of_8_tiles(self):
        for rule in [CHESS, FLAT] + GREAT_RULES:
            for tile in "ab":
                floor = cut_far(rule, tile, 60, rule[0] ** 50 // 3, rule[1] ** 50 // 7, 8, 8)
                way = self.told(way_of, rule, tile, floor)
                self.yes(way_holds, rule, tile, floor, way)
                growings, row, column = self.told(way_place, rule, way)
                self.assertEqual(cut_far(rule, tile, growings, row, column, 8, 8), floor)


class WayPlaceTest(Asker):
    def test_ordinary_ways(self):
        self.assertEqual(self.told(way_place, STRIPE, ()), (0, 0, 0))
        self.assertEqual(self.told(way_place, STRIPE, ((0, 1, ("ab",)), (0, 0, ("a",)))), (2, 0, 1))
        self.assertEqual(self.told(way_place, FLAT, ((1, 2, ("a",)), (0, 1, ("a",)))), (2, 1, 5))
        self.assertEqual(self.told(way_place, FLAT, ((1, 2, ("c",)), (1, 0, ("b",)), (0, 2, ("a",)))), (3, 3, 20))

    def test_the_floor_stands_there(self):
        for rule in SOME_RULES:
            for tile in tiles_of(rule)[:2]:
                for floor in sample_floors(rule):
                    way = way_of(rule, tile, floor)
                    if way is not None:
                        growings, row, column = self.told(way_place, rule, way)
                        self.assertEqual(growings, len(way))
                        self.assertEqual(cut_far(rule, tile, growings, row, column, len(floor), len(floor[0])), floor)

    def test_whoever_made_the_way(self):
        # All ways of three cuttings, one for each place.
        for floor in (("ab",), ("b", "c"), ("ab", "ba")):
            places = []
            for first in cuttings_by_hand(CHESS, floor):
                for second in cuttings_by_hand(CHESS, first[2]):
                    for third in cuttings_by_hand(CHESS, second[2]):
                        way = (first, second, third)
                        if way_holds(CHESS, "a", floor, way):
                            places.append(way_place(CHESS, way)[1:])
            laid = pieces_by_hand(laid_far(CHESS, "a", 3), len(floor), len(floor[0]))
            self.assertEqual(sorted(places), laid[floor])

    def test_a_long_way(self):
        way = ((1, 1, ("a",)),) * 500
        self.assertEqual(self.told(way_place, even_rule(2, 3), way), (500, 2 ** 500 - 1, (3 ** 500 - 1) // 2))


class WaysCountTest(Asker):
    def test_against_the_places_in_laid_floors(self):
        for rule in SOME_RULES:
            for tile in tiles_of(rule)[:2]:
                laid = [laid_far(rule, tile, growings) for growings in laid_sizes(rule, 300)]
                for floor in sample_floors(rule)[::2]:
                    for growings, whole in enumerate(laid):
                        places = pieces_by_hand(whole, len(floor), len(floor[0])).get(floor, [])
                        self.assertEqual(self.told(ways_count, rule, tile, floor, growings), len(places))

    def test_t_from_0_to_60(self):
        for rule, floor in ((CHESS, ("ab", "ba")), (STRIPE, ("bb",)), (TOWER, ("a", "a", "b")), (FLAT, ("abc",)),
                            (TURNS, ("cc",)), (LONELY, ("ab",))):
            for growings in range(61):
                self.assertEqual(ways_count(rule, "a", floor, growings), times_far(rule, "a", growings, floor))

    def test_60_growings(self):
        side = 2 ** 60
        self.assertEqual(self.told(ways_count, even_rule(2, 2), "a", even_floor(8, 8), 60), (side - 7) ** 2)
        self.assertEqual(self.told(ways_count, even_rule(1, 3), "a", even_floor(1, 8), 60), 3 ** 60 - 7)
        self.assertEqual(self.told(ways_count, even_rule(1, 3), "a", even_floor(2, 8), 60), 0)
        self.assertEqual(self.told(ways_count, LONELY, "a", ("ab", "bb"), 60), 1)
        self.assertEqual(self.told(ways_count, LONELY, "b", ("ab", "bb"), 60), 0)
        for rule in (GREAT_RULES[1], tangled_rule(4, 4, ALPHABET, 2)):
            floor = cut_far(rule, "k", 3, 28, 28, 8, 8)
            self.assertGreater(self.told(ways_count, rule, "k", floor, 60), 0)
            for floor in (cut_far(rule, "k", 3, 28, 28, 3, 2), ("k",)):
                self.assertEqual(ways_count(rule, "k", floor, 60), times_far(rule, "k", 60, floor))

    def test_no_cuttings(self):
        for rule in SOME_RULES:
            for tile in tiles_of(rule):
                for other in tiles_of(rule):
                    self.assertEqual(ways_count(rule, tile, (other,), 0), int(tile == other))
                self.assertEqual(ways_count(rule, tile, (tile * 2,), 0), 0)


class NeverTest(Asker):
    def test_the_first_two_sorts(self):
        for floor in (("a", "b"), ("ab", "ba"), ("a", "a", "c")):
            self.assertEqual(self.told(never_of, STRIPE, "a", floor), ("rows",))
            self.yes(never_holds, STRIPE, "a", floor, ("rows",))
            self.no(never_holds, STRIPE, "a", floor, ("columns",))
            self.no(never_holds, CHESS, "a", floor, ("rows",))
        for floor in (("ab",), ("ab", "ba"), ("aac",)):
            self.assertEqual(self.told(never_of, TOWER, "a", floor), ("columns",))
            self.yes(never_holds, TOWER, "a", floor, ("columns",))
            self.no(never_holds, TOWER, "a", floor, ("rows",))
            self.no(never_holds, CHESS, "a", floor, ("columns",))
        self.no(never_holds, STRIPE, "a", ("ab",), ("rows",))
        self.no(never_holds, STRIPE, "a", ("aaa",), ("rows",))
        self.no(never_holds, TOWER, "a", ("a", "b"), ("columns",))

    def test_the_first_two_sorts_are_not_refused(self):
        self.assertEqual(self.told(never_of, swapping_rule(26), "a", ("a", "b")), ("rows",))
        self.assertEqual(self.told(never_of, turned_rule(swapping_rule(26)), "a", ("ab",)), ("columns",))
        self.assertEqual(self.told(never_of, alike_rule(1, 3, 26), "a", even_floor(8, 8)), ("rows",))

    def test_the_third_sort(self):
        self.assertEqual(self.told(never_of, STRIPE, "a", ("aaa",)), ("back", (("aaa",),)))
        self.assertEqual(self.told(never_of, STRIPE, "a", ("c",)), ("back", (("c",),)))
        self.assertEqual(self.told(never_of, STRIPE, "c", ("ab",)), ("back", (("a",), ("ab",), ("b",), ("bb",))))
        for rule in SOME_RULES:
            for tile in tiles_of(rule)[:2]:
                for floor in sample_floors(rule):
                    paper = self.told(never_of, rule, tile, floor)
                    if paper is not None and len(paper) == 2:
                        self.assertEqual(paper, ("back", tuple(sorted(back_list(rule, floor)))))
                        self.yes(never_holds, rule, tile, floor, paper)

    def test_none_where_there_is_a_way(self):
        for rule in SOME_RULES:
            for tile in tiles_of(rule)[:2]:
                for floor in sample_floors(rule):
                    way, paper = way_of(rule, tile, floor), never_of(rule, tile, floor)
                    self.assertEqual(way is None, paper is not None)
                    back = ("back", tuple(sorted(back_list(rule, floor))))
                    self.assertIs(never_holds(rule, tile, floor, back), way is None)
                    if way is not None:
                        self.assertIs(never_holds(rule, tile, floor, ("rows",)), False)
                        self.assertIs(never_holds(rule, tile, floor, ("columns",)), False)

    def test_a_floor_left_out(self):
        floors = never_of(STRIPE, "c", ("aba",))[1]
        self.assertGreater(len(floors), 3)
        for number in range(len(floors)):
            self.no(never_holds, STRIPE, "c", ("aba",), ("back", floors[:number] + floors[number + 1:]))
        self.no(never_holds, STRIPE, "c", ("aba",), ("back", ()))

    def test_floors_too_many_that_still_make_a_paper(self):
        floors = never_of(STRIPE, "c", ("aba",))[1]
        more = tuple(sorted(floors + (("aaa",), ("acb",))))
        self.yes(never_holds, STRIPE, "c", ("aba",), ("back", more))
        self.yes(never_holds, STRIPE, "c", ("aaa",), ("back", more))
        self.yes(never_holds, STRIPE, "c", ("bb",), ("back", floors))
        self.no(never_holds, STRIPE, "c", ("bab",), ("back", floors))
        self.no(never_holds, STRIPE, "c", ("aba",), ("back", tuple(sorted(floors + (("baba",),)))))

    def test_the_tiles_own_floor_in_it(self):
        floors = never_of(STRIPE, "c", ("aba",))[1]
        self.no(never_holds, STRIPE, "a", ("aba",), ("back", floors))
        self.no(never_holds, STRIPE, "c", ("aba",), ("back", tuple(sorted(floors + (("c",),)))))
        self.no(never_holds, STRIPE, "c", ("c",), ("back", (("c",),)))

    def test_not_rising_or_one_twice(self):
        floors = never_of(STRIPE, "c", ("aba",))[1]
        self.no(never_holds, STRIPE, "c", ("aba",), ("back", floors[::-1]))
        self.no(never_holds, STRIPE, "c", ("aba",), ("back", floors[1:] + floors[:1]))
        for number in range(len(floors)):
            twice = floors[:number] + (floors[number],) + floors[number:]
            self.no(never_holds, STRIPE, "c", ("aba",), ("back", twice))

    def test_floors_too_great_or_strange(self):
        self.yes(never_holds, STRIPE, "a", ("aaa",), ("back", (("aaa",),)))
        self.yes(never_holds, STRIPE, "a", ("aaa",), ("back", (("aaa",), ("aaaaaaaa",))))
        self.yes(never_holds, STRIPE, "a", ("aaa",), ("back", (("aaa",), ("aaa",) * 8)))
        for floor in (("aaaaaaaaa",), ("aaa",) * 9, even_floor(9, 9), even_floor(65, 3), ("aaz",), ("z",)):
            self.no(never_holds, STRIPE, "a", ("aaa",), ("back", (("aaa",), floor)))

    def test_floors_with_more_than_300_cuttings_are_in_none(self):
        rule = (4, 4, alike_rule(4, 4, 18)[2] + (("z", ("zaaa",) + ("aaaa",) * 3),))
        # 288, and 15 more for z.
        self.too_great(303, 300, cuttings, rule, ("a",))
        floors = tuple((tile,) for tile in ALPHABET[:18]) + (("z",),)
        self.no(never_holds, rule, "b", ("a",), ("back", tuple(floor for floor in floors if floor != ("b",))))
        lesser = (4, 4, alike_rule(4, 4, 18)[2] + (("z", ("zzzz",) * 4),))
        floors = tuple((tile,) for tile in ALPHABET[:18])
        self.yes(never_holds, lesser, "z", ("a",), ("back", floors))
        just = (1, 3, alike_rule(1, 3, 12)[2] + (("z", ("zzz",)),))
        self.assertEqual(len(self.told(cuttings, just, ("aaa",))), 300)
        paper = self.told(never_of, just, "z", ("aaa",))
        self.assertEqual(paper, ("back", tuple(sorted(back_by_hand(just, ("aaa",))))))
        self.yes(never_holds, just, "z", ("aaa",), paper)
        alike = alike_rule(4, 4, 26)
        everything = tuple((tile,) for tile in ALPHABET)
        for tile in "bz":
            self.no(never_holds, alike, tile, ("a",), ("back", everything))
        two = (4, 4, tuple((tile, even_floor(4, 4)) for tile in ALPHABET[:25]) + (("z", ("zzzz",) * 4),))
        self.no(never_holds, two, "z", ("a",), ("back", everything[:25]))

    def test_600_floors(self):
        rule = swapping_rule(25)
        floors = tuple(sorted(back_list(rule, ("a", "b"))))
        self.yes(never_holds, rule, "a", ("c", "d"), ("back", floors))
        self.no(never_holds, rule, "a", ("c", "d"), ("back", floors[1:]))
        self.no(never_holds, rule, "a", ("c", "c"), ("back", floors))
        # A paper may have more floors than a list that is told.
        more = swapping_rule(26)
        pairs = tuple((one, two) for one in ALPHABET for two in ALPHABET if one != two)
        self.yes(never_holds, more, "a", ("c", "d"), ("back", pairs))

    def test_whatever_is_handed_in(self):
        back = ("back", (("aaa",),))
        self.yes(never_holds, STRIPE, "a", ("aaa",), back)
        for thing in odd_things():
            self.no(never_holds, STRIPE, "a", ("aaa",), thing)
            self.no(never_holds, STRIPE, "a", ("aaa",), (thing,))
            self.no(never_holds, STRIPE, "a", ("aaa",), ("back", thing))
            self.no(never_holds, STRIPE, "a", ("aaa",), (thing, (("aaa",),)))
            self.no(never_holds, STRIPE, "a", ("aaa",), ("back", (("aaa",), thing)))
            self.no(never_holds, STRIPE, "a", ("aaa",), ("back", (thing, ("aaa",))))
            self.no(never_holds, STRIPE, "a", ("a", "b"), thing)
            self.no(never_holds, STRIPE, "a", ("a", "b"), ("rows", thing))
        for thing in (["back", (("aaa",),)], ("back", [("aaa",)]), ("back", (["aaa"],)), ("back", ("aaa",)), ("back",),
                      ("back", (("aaa",),), ()), (("aaa",),), "back", "rows", ("rows",), ("Back", (("aaa",),)),
                      ("rows", (("aaa",),)), {"back": (("aaa",),)}):
            self.no(never_holds, STRIPE, "a", ("aaa",), thing)
        for thing in (["rows"], "rows", ("rows", ()), ("rows", "rows"), ("row",), ("columns",), ("Rows",), {"rows": 1}):
            self.no(never_holds, STRIPE, "a", ("a", "b"), thing)

    def test_refused_where_it_is_not_of_the_first_two_sorts(self):
        self.too_great(13 + 2 * 169, 300, never_of, alike_rule(1, 3, 13), "a", ("aaa",))
        self.too_great(304, 300, never_of, alike_rule(4, 4, 19), "b", ("a",))
        for high, wide, many, seed, floor in (
            (4, 2, 6, 24, ("ba", "de")), (4, 4, 10, 12, ("ab", "cd")), (4, 4, 6, 31, ("aa", "bc")),
        ):
            rule = tangled_rule(high, wide, ALPHABET[:many], seed)
            self.assertEqual(back_by_hand(rule, floor), (601, 600))
            self.too_great(601, 600, never_of, rule, "a", floor)
            self.too_great(601, 600, way_of, rule, "a", floor)


class ConsequencesTest(Asker):
    def test_a_way_or_a_paper_never_both(self):
        for rule in [CHESS, LONELY, FLAT, PARTED, tangled_rule(2, 2, "abcd", 1), tangled_rule(1, 2, "abc", 2)]:
            for text in itertools.product(tiles_of(rule)[:3], repeat=4):
                floor = ("".join(text[:2]), "".join(text[2:]))
                tile = tiles_of(rule)[-1]
                way, paper = way_of(rule, tile, floor), never_of(rule, tile, floor)
                self.assertEqual((way is None) + (paper is None), 1)
                self.assertEqual(comes_at(rule, tile, floor) is None, way is None)

    def test_ways_are_as_many_as_places(self):
        for rule in (CHESS, FLAT):
            for growings in laid_sizes(rule, 300):
                for floor, places in list(pieces_by_hand(laid_far(rule, "b", growings), 4, 5).items())[::9]:
                    self.assertEqual(ways_count(rule, "b", floor, growings), len(places))


class SameAnswerTest(Asker):
    def test_whatever_was_asked_in_between(self):
        questions = [
            (cuttings, CHESS, ("ab", "ba")), (back_list, CHESS, ("ab", "ba")), (way_of, CHESS, "a", ("ab", "cc")),
            (never_of, CHESS, "a", ("aaa", "aaa")), (ways_count, CHESS, "a", ("ab",), 9), (offsets_of, CHESS, ("ab",)),
            (way_holds, CHESS, "a", ("ab",), way_of(CHESS, "a", ("ab",))), (never_of, STRIPE, "a", ("aaa",)),
            (way_place, CHESS, way_of(CHESS, "a", ("cc",))), (never_holds, STRIPE, "a", ("a", "a"), ("rows",)),
        ]
        before = copy.deepcopy(questions)
        first = [asked(*handed) for asked, *handed in questions]
        again = [asked(*handed) for asked, *handed in reversed(questions)]
        self.assertEqual(again, first[::-1])
        self.assertEqual(questions, before)


if __name__ == "__main__":
    unittest.main()
