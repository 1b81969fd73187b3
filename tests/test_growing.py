"""1.4 to 1.6: grown floors, turned, mirrored and joined rules, and 0.2 as far as it speaks of them."""

import copy
import unittest

from samples import (
    ALPHABET, CHESS, FLAT, FLOORS, RULES, SIZES, STRIPE, TOWER, even_floor, even_rule, grown_by_hand, mixed_rule,
)
from tilegrow.errors import FloorError, NoTile, TooGreat
from tilegrow.floors import floor_good, mirrored_floor, turned_floor
from tilegrow.rules import (
    grown_floor, grown_often, joined_rule, mirrored_rule, rule_good, turned_rule,
)


class RefusalTest(unittest.TestCase):
    def no_tile(self, tile, asked, *handed):
        with self.assertRaises(NoTile) as met:
            asked(*handed)
        self.assertEqual(met.exception.tile, tile)
        self.assertIsInstance(met.exception, FloorError)

    def too_great(self, many, most, asked, *handed):
        with self.assertRaises(TooGreat) as met:
            asked(*handed)
        self.assertEqual((met.exception.many, met.exception.most), (many, most))
        self.assertIsInstance(met.exception, FloorError)


def fits(rule, floor, often):
    return len(floor) * rule[0] ** often <= 64 and len(floor[0]) * rule[1] ** often <= 64


class GrownFloorTest(RefusalTest):
    def test_ordinary_floors(self):
        self.assertEqual(grown_floor(CHESS, ("a",)), ("ab", "ba"))
        self.assertEqual(grown_floor(CHESS, ("ab", "ca")), ("abcc", "baab", "caab", "bbba"))
        self.assertEqual(grown_floor(STRIPE, ("abc",)), ("abbacc",))
        self.assertEqual(grown_floor(STRIPE, ("a", "b")), ("ab", "ba"))
        self.assertEqual(grown_floor(TOWER, ("ab",)), ("ac", "bc", "ca"))
        self.assertEqual(grown_floor(TOWER, ("a", "c")), ("a", "b", "c", "b", "a", "a"))
        self.assertEqual(grown_floor(FLAT, ("ab", "ca")), ("abcaab", "bcaccb", "cbaabc", "aacbca"))

    def test_tile_by_tile(self):
        for rule in RULES:
            for floor in FLOORS:
                if fits(rule, floor, 1):
                    grown = grown_floor(rule, floor)
                    self.assertEqual(grown, grown_by_hand(rule, floor))
                    self.assertIs(floor_good(grown), True)

    def test_a_floor_need_not_have_all_tiles(self):
        rule = mixed_rule(2, 3, ALPHABET, 5)
        self.assertEqual(grown_floor(rule, ("z",)), dict(rule[2])["z"])
        self.assertEqual(grown_floor(rule, (ALPHABET[:20],)), grown_by_hand(rule, (ALPHABET[:20],)))

    def test_the_first_strange_tile_row_by_row(self):
        self.no_tile("x", grown_floor, CHESS, ("x",))
        self.no_tile("z", grown_floor, CHESS, ("az", "yb"))
        self.no_tile("y", grown_floor, CHESS, ("yz", "xb"))
        self.no_tile("x", grown_floor, CHESS, ("ab", "bx"))
        self.no_tile("x", grown_floor, CHESS, ("abc", "bac", "cax", "dab"))
        self.no_tile("z", grown_floor, CHESS, ("abz", "xaa", "xaa"))
        self.no_tile("d", grown_floor, STRIPE, ("abcd",))
        self.no_tile("a", grown_floor, even_rule(2, 1, "bc"), ("bca",))

    def test_a_strange_tile_goes_ahead_of_too_great(self):
        self.no_tile("x", grown_floor, CHESS, even_floor(63, 64) + ("a" * 63 + "x",))
        self.no_tile("x", grown_floor, CHESS, even_floor(64, 64, "x"))
        self.no_tile("x", grown_floor, STRIPE, ("a" * 63 + "x",))

    def test_just_64_and_beyond(self):
        for size in (2, 3, 4):
            last = 64 // size
            tall = even_rule(size, 1)
            broad = even_rule(1, size)
            self.assertEqual(grown_floor(tall, even_floor(last, 64)), even_floor(last * size, 64))
            self.assertEqual(grown_floor(broad, even_floor(64, last)), even_floor(64, last * size))
            for many in (last + 1, last + 2, 64):
                self.too_great(many * size, 64, grown_floor, tall, even_floor(many, 1))
                self.too_great(many * size, 64, grown_floor, tall, even_floor(many, 64))
                self.too_great(many * size, 64, grown_floor, broad, even_floor(1, many))
                self.too_great(many * size, 64, grown_floor, broad, even_floor(64, many))
        self.assertEqual(grown_floor(even_rule(2, 2), even_floor(32, 32)), even_floor(64, 64))
        self.assertEqual(grown_floor(even_rule(4, 4), even_floor(16, 16)), even_floor(64, 64))

    def test_rows_go_ahead_of_columns(self):
        self.too_great(66, 64, grown_floor, even_rule(2, 2), even_floor(33, 64))
        self.too_great(66, 64, grown_floor, even_rule(2, 4), even_floor(33, 33))
        self.too_great(128, 64, grown_floor, even_rule(2, 3), even_floor(64, 22))
        self.too_great(66, 64, grown_floor, even_rule(2, 2), even_floor(32, 33))
        self.too_great(96, 64, grown_floor, even_rule(2, 3), even_floor(2, 32))


class GrownOftenTest(RefusalTest):
    def test_ordinary_floors(self):
        self.assertEqual(grown_often(STRIPE, ("a",), 0), ("a",))
        self.assertEqual(grown_often(STRIPE, ("a",), 1), ("ab",))
        self.assertEqual(grown_often(STRIPE, ("a",), 2), ("abba",))
        self.assertEqual(grown_often(STRIPE, ("a",), 3), ("abbabaab",))
        self.assertEqual(grown_often(STRIPE, ("a", "c"), 2), ("abba", "cccc"))
        self.assertEqual(grown_often(CHESS, ("a",), 2), ("abcc", "baab", "ccab", "abba"))
        self.assertEqual(grown_often(TOWER, ("a",), 2), ("a", "b", "c", "c", "c", "a", "b", "a", "a"))

    def test_grown_no_times(self):
        great = even_floor(64, 64, "c")
        for rule in RULES:
            for floor in FLOORS + [great]:
                self.assertEqual(grown_often(rule, floor, 0), floor)

    def test_grown_once(self):
        for rule in RULES:
            for floor in FLOORS:
                if fits(rule, floor, 1):
                    self.assertEqual(grown_often(rule, floor, 1), grown_floor(rule, floor))

    def test_grown_often(self):
        for rule in RULES:
            for floor in FLOORS:
                expected = floor
                often = 0
                while fits(rule, floor, often):
                    self.assertEqual(grown_often(rule, floor, often), expected)
                    expected = grown_by_hand(rule, expected)
                    often = often + 1
                with self.assertRaises(TooGreat):
                    grown_often(rule, floor, often)

    def test_just_64(self):
        for rule in (mixed_rule(2, 2, "abc", 1), CHESS):
            grown = grown_often(rule, ("a",), 6)
            self.assertEqual((len(grown), len(grown[0])), (64, 64))
            self.assertIs(floor_good(grown), True)
        self.assertEqual(grown_often(even_rule(4, 4), ("a",), 3), even_floor(64, 64))
        self.assertEqual(len(grown_often(STRIPE, ("a",), 6)[0]), 64)

    def test_beyond_64_the_last_floor_is_told(self):
        self.too_great(128, 64, grown_often, CHESS, ("a",), 7)
        self.too_great(256, 64, grown_often, CHESS, ("a",), 8)
        self.too_great(96, 64, grown_often, CHESS, ("a", "b", "c"), 5)
        self.too_great(96, 64, grown_often, CHESS, ("abc",), 5)
        self.too_great(81, 64, grown_often, FLAT, ("a",), 4)
        self.too_great(243, 64, grown_often, FLAT, ("a",), 5)
        self.too_great(729, 64, grown_often, FLAT, ("a",), 6)
        self.too_great(128, 64, grown_often, FLAT, ("a",), 7)
        self.too_great(243, 64, grown_often, TOWER, ("abc",), 5)
        self.too_great(5 * 2 ** 9, 64, grown_often, STRIPE, ("abcab", "aaaaa"), 9)

    def test_beyond_64_up_to_a_thousand_times(self):
        self.too_great(2 ** 1000, 64, grown_often, CHESS, ("a",), 1000)
        self.too_great(2 ** 1000, 64, grown_often, STRIPE, ("a",), 1000)
        self.too_great(3 ** 1000, 64, grown_often, TOWER, ("a",), 1000)
        self.too_great(2 ** 999, 64, grown_often, FLAT, ("a",), 999)
        self.too_great(4 ** 1000, 64, grown_often, even_rule(4, 4), ("a",), 1000)
        self.too_great(4 ** 1000, 64, grown_often, even_rule(1, 4), ("a",), 1000)
        self.too_great(64 * 4 ** 1000, 64, grown_often, even_rule(4, 3), even_floor(64, 64), 1000)
        self.too_great(64 * 3 ** 1000, 64, grown_often, even_rule(1, 3), even_floor(64, 64), 1000)
        self.too_great(7 * 4 ** 500, 64, grown_often, even_rule(1, 4), even_floor(5, 7), 500)

    def test_the_first_strange_tile_however_often(self):
        for often in (0, 1, 2, 7, 1000):
            self.no_tile("z", grown_often, CHESS, ("az", "yb"), often)
            self.no_tile("x", grown_often, STRIPE, ("abc", "abx"), often)
            self.no_tile("x", grown_often, CHESS, even_floor(63, 64) + ("a" * 63 + "x",), often)
            self.no_tile("d", grown_often, even_rule(1, 2), ("d",), often)


class TurnedRuleTest(unittest.TestCase):
    def test_the_blocks_are_the_turned_ones(self):
        self.assertEqual(turned_rule(CHESS), (2, 2, (("a", ("ab", "ba")), ("b", ("ca", "cb")), ("c", ("cb", "ab")))))
        self.assertEqual(turned_rule(STRIPE), (2, 1, (("a", ("a", "b")), ("b", ("b", "a")), ("c", ("c", "c")))))
        self.assertEqual(turned_rule(TOWER), (1, 3, (("a", ("abc",)), ("b", ("cca",)), ("c", ("baa",)))))
        self.assertEqual(turned_rule(FLAT), (3, 2, (("a", ("ab", "bc", "ca")), ("b", ("ac", "ac", "bb")),
                                                    ("c", ("ca", "ba", "ac")))))

    def test_of_each_rule(self):
        for rule in RULES + [mixed_rule(3, 4, ALPHABET, 2)]:
            turned = turned_rule(rule)
            self.assertIs(rule_good(turned), True)
            self.assertEqual(turned[:2], (rule[1], rule[0]))
            self.assertEqual(turned[2], tuple((tile, turned_floor(block)) for tile, block in rule[2]))


class MirroredRuleTest(unittest.TestCase):
    def test_the_blocks_are_the_mirrored_ones(self):
        self.assertEqual(mirrored_rule(CHESS), (2, 2, (("a", ("ba", "ab")), ("b", ("cc", "ba")), ("c", ("ac", "bb")))))
        self.assertEqual(mirrored_rule(STRIPE), (1, 2, (("a", ("ba",)), ("b", ("ab",)), ("c", ("cc",)))))
        self.assertEqual(mirrored_rule(TOWER), TOWER)
        self.assertEqual(mirrored_rule(FLAT), (2, 3, (("a", ("cba", "acb")), ("b", ("baa", "bcc")),
                                                      ("c", ("abc", "caa")))))

    def test_of_each_rule(self):
        for rule in RULES + [mixed_rule(3, 4, ALPHABET, 2)]:
            mirrored = mirrored_rule(rule)
            self.assertIs(rule_good(mirrored), True)
            self.assertEqual(mirrored[:2], rule[:2])
            self.assertEqual(mirrored[2], tuple((tile, mirrored_floor(block)) for tile, block in rule[2]))


class JoinedRuleTest(RefusalTest):
    def test_the_one_and_behind_it_the_other(self):
        tall = (2, 1, (("a", ("b", "a")), ("b", ("a", "a"))))
        broad = (1, 2, (("a", ("ab",)), ("b", ("bb",))))
        self.assertEqual(joined_rule(tall, broad), (2, 2, (("a", ("bb", "ab")), ("b", ("ab", "ab")))))
        self.assertEqual(joined_rule(broad, tall), (2, 2, (("a", ("ba", "aa")), ("b", ("aa", "aa")))))
        self.assertEqual(joined_rule(broad, broad), (1, 4, (("a", ("abbb",)), ("b", ("bbbb",)))))
        self.assertEqual(joined_rule(tall, tall), (4, 1, (("a", ("a", "a", "b", "a")), ("b", ("b", "a", "b", "a")))))

    def test_all_sizes_that_can_be(self):
        for high, wide in SIZES:
            for more, broader in SIZES:
                rule = mixed_rule(high, wide, "abcd", 1)
                other = mixed_rule(more, broader, "abcd", 2)
                if high * more > 4:
                    self.too_great(high * more, 4, joined_rule, rule, other)
                elif wide * broader > 4:
                    self.too_great(wide * broader, 4, joined_rule, rule, other)
                else:
                    joined = joined_rule(rule, other)
                    self.assertIs(rule_good(joined), True)
                    self.assertEqual(joined[:2], (high * more, wide * broader))
                    for tile, block in joined[2]:
                        self.assertEqual(block, grown_by_hand(other, dict(rule[2])[tile]))

    def test_26_tiles(self):
        rule = mixed_rule(2, 1, ALPHABET, 3)
        other = mixed_rule(1, 3, ALPHABET, 4)
        joined = joined_rule(rule, other)
        self.assertEqual(joined[2], tuple((tile, grown_by_hand(other, block)) for tile, block in rule[2]))

    def test_beyond_the_sizes(self):
        self.too_great(6, 4, joined_rule, even_rule(2, 1), even_rule(3, 1))
        self.too_great(6, 4, joined_rule, even_rule(1, 3), even_rule(1, 2))
        self.too_great(16, 4, joined_rule, even_rule(4, 4), even_rule(4, 4))
        self.too_great(8, 4, joined_rule, even_rule(2, 4), even_rule(4, 4))
        self.too_great(12, 4, joined_rule, even_rule(2, 4), even_rule(2, 3))

    def test_the_least_tile_that_just_one_has(self):
        for tiles, others, tile in (("abd", "acd", "b"), ("acd", "abd", "b"), ("ab", "abz", "z"), ("abz", "ab", "z"),
                                    ("a", "b", "a"), ("xyz", "z", "x"), ("bcz", "abc", "a"), ("bcy", "bcx", "x"),
                                    (ALPHABET, ALPHABET[:25], "z"), (ALPHABET[1:], ALPHABET, "a")):
            self.no_tile(tile, joined_rule, even_rule(2, 1, tiles), even_rule(1, 2, others))
            self.no_tile(tile, joined_rule, even_rule(1, 2, others), even_rule(2, 1, tiles))

    def test_a_lone_tile_goes_ahead_of_too_great(self):
        self.no_tile("b", joined_rule, even_rule(4, 4, "ab"), even_rule(4, 4, "a"))
        self.no_tile("c", joined_rule, even_rule(3, 1, "ab"), even_rule(3, 1, "abc"))
        self.no_tile("c", joined_rule, even_rule(1, 3, "ab"), even_rule(1, 3, "abc"))


class SoTest(unittest.TestCase):
    """1.6, each of its sentences."""

    def test_turned_and_grown_by_the_turned_rule(self):
        for rule in RULES:
            for floor in FLOORS:
                if fits(rule, floor, 1):
                    self.assertEqual(grown_floor(turned_rule(rule), turned_floor(floor)),
                                     turned_floor(grown_floor(rule, floor)))
                if fits(rule, floor, 2):
                    self.assertEqual(grown_often(turned_rule(rule), turned_floor(floor), 2),
                                     turned_floor(grown_often(rule, floor, 2)))

    def test_mirrored_and_grown_by_the_mirrored_rule(self):
        for rule in RULES:
            for floor in FLOORS:
                if fits(rule, floor, 1):
                    self.assertEqual(grown_floor(mirrored_rule(rule), mirrored_floor(floor)),
                                     mirrored_floor(grown_floor(rule, floor)))
                if fits(rule, floor, 2):
                    self.assertEqual(grown_often(mirrored_rule(rule), mirrored_floor(floor), 2),
                                     mirrored_floor(grown_often(rule, floor, 2)))

    def test_turned_or_mirrored_twice(self):
        for floor in FLOORS:
            self.assertEqual(turned_floor(turned_floor(floor)), floor)
            self.assertEqual(mirrored_floor(mirrored_floor(floor)), floor)
        for rule in RULES:
            self.assertEqual(turned_rule(turned_rule(rule)), rule)
            self.assertEqual(mirrored_rule(mirrored_rule(rule)), rule)

    def test_grown_by_a_joined_rule(self):
        asked = 0
        for rule in RULES:
            for other in RULES:
                if rule[0] * other[0] <= 4 and rule[1] * other[1] <= 4:
                    joined = joined_rule(rule, other)
                    for floor in FLOORS:
                        if fits(joined, floor, 1):
                            asked = asked + 1
                            self.assertEqual(grown_floor(joined, floor),
                                             grown_floor(other, grown_floor(rule, floor)))
        self.assertGreater(asked, 100)


class NothingChangedTest(unittest.TestCase):
    """0.2: the same question has the same answer, whatever was asked in between."""

    def answers(self, rules):
        told = []
        for rule in rules:
            told.append((turned_rule(rule), mirrored_rule(rule)))
            for floor in FLOORS:
                if fits(rule, floor, 2):
                    told.append((grown_floor(rule, floor), grown_often(rule, floor, 2)))
        return told

    def test_asked_again_in_another_order(self):
        before = copy.deepcopy((RULES, FLOORS))
        first = [self.answers([rule]) for rule in RULES]
        again = [self.answers([rule]) for rule in reversed(RULES)]
        self.assertEqual(first, again[::-1])
        self.assertEqual((RULES, FLOORS), before)

    def test_a_refusal_changes_nothing(self):
        grown = grown_floor(CHESS, ("abc",))
        joined = joined_rule(STRIPE, STRIPE)
        for asked, handed in ((grown_floor, (CHESS, ("abx",))), (grown_often, (CHESS, ("a",), 1000)),
                              (joined_rule, (STRIPE, even_rule(1, 2))), (joined_rule, (CHESS, FLAT))):
            with self.assertRaises(FloorError):
                asked(*handed)
        self.assertEqual(grown_floor(CHESS, ("abc",)), grown)
        self.assertEqual(joined_rule(STRIPE, STRIPE), joined)

    def test_what_was_told_may_be_handed_in_again(self):
        rule = joined_rule(turned_rule(STRIPE), mirrored_rule(STRIPE))
        self.assertEqual(rule[:2], (2, 2))
        floor = grown_often(rule, turned_floor(grown_floor(STRIPE, ("ab",))), 2)
        self.assertEqual(floor, grown_by_hand(rule, grown_by_hand(rule, ("a", "b", "b", "a"))))

    def test_rules_with_the_same_tiles_are_kept_apart(self):
        one = (1, 2, (("a", ("ab",)), ("b", ("bb",))))
        other = (1, 2, (("a", ("ba",)), ("b", ("aa",))))
        for turn in range(3):
            self.assertEqual(grown_floor(one, ("ab",)), ("abbb",))
            self.assertEqual(grown_floor(other, ("ab",)), ("baaa",))
            self.assertEqual(joined_rule(one, other), (1, 4, (("a", ("baaa",)), ("b", ("aaaa",)))))
            self.assertEqual(joined_rule(other, one), (1, 4, (("a", ("bbab",)), ("b", ("abab",)))))


if __name__ == "__main__":
    unittest.main()
