"""10.2 to 10.4: the desk, and 0.2, 0.3, 0.4 as far as they speak of it."""

import copy
import itertools
import random
import sys
import unittest

from samples import (
    ALPHABET, CHESS, FLAT, GREAT_RULES, LONELY, SIGNS, SIZES, STRIPE, TOWER, TURNS, Asker, even_rule, odd_things,
    paint_of, still_rule, stills_of, tiles_of,
)
from tilegrow.alike import first_unlike, sign_at
from tilegrow.coming import comes_at, pieces_of
from tilegrow.counts import tile_counts
from tilegrow.desk import Desk
from tilegrow.errors import FloorError, NoFloor, NoNumber, NoPlace, NoRow, NoRule, NoTile, TooGreat
from tilegrow.far import line_far, tile_far
from tilegrow.rules import grown_often, rule_good

FAR = 10 ** 40


def deeds_of(rule, paint=()):
    rows = ["sizes " + str(rule[0]) + " " + str(rule[1])]
    rows += ["block " + tile + " " + "/".join(block) for tile, block in rule[2]]
    return rows + ["paint " + tile + " " + sign for tile, sign in paint]


def desk_of(rows):
    desk = Desk()
    for row in rows:
        desk.say(row)
    return desk


def outcome(desk, row):
    """What the desk answers, or the class and the fields of its refusal."""
    try:
        return desk.say(row)
    except FloorError as error:
        return (error.__class__, vars(error))


def rule_row(desk):
    return desk.say("rule")


class DeskAsker(Asker):
    def says(self, desk, row, answer):
        before = rule_row(desk)
        first = desk.say(row)
        self.assertEqual(first, answer, row)
        self.assertIs(first.__class__, str)
        self.assertEqual(desk.say(row), answer, row)
        self.assertEqual(rule_row(desk), before)

    def does(self, desk, *rows):
        for row in rows:
            answer = desk.say(row)
            self.assertEqual(answer, "ok", row)
            self.assertIs(answer.__class__, str)

    def refuses(self, desk, kind, row, **fields):
        kept = copy.deepcopy(row)
        before = rule_row(desk)
        error = self.refused(kind, desk.say, row)
        self.assertEqual(vars(error), fields, row)
        self.assertEqual(row, kept)
        self.assertEqual(rule_row(desk), before)


class DeedsTest(DeskAsker):
    def test_at_first(self):
        desk = Desk()
        self.says(desk, "rule", "rule 1 2")
        self.refuses(desk, NoRow, "back")
        self.refuses(desk, NoTile, "drop a", tile="a")
        self.refuses(desk, NoTile, "paint a b", tile="a")
        self.refuses(desk, NoTile, "grow a 0", tile="a")
        self.refuses(desk, NoFloor, "block a ab/ba")
        self.does(desk, "block a ab")

    def test_sizes(self):
        for high, wide in SIZES:
            desk = Desk()
            self.does(desk, "sizes " + str(high) + " " + str(wide))
            self.says(desk, "rule", "rule " + str(high) + " " + str(wide))
            self.does(desk, "block a " + "/".join(["a" * wide] * high))

    def test_sizes_take_all_blocks_away(self):
        for sizes in ("2 2", "1 2", "4 4"):
            desk = desk_of(["block a ab", "block b ba", "paint a q"])
            self.does(desk, "sizes " + sizes)
            self.says(desk, "rule", "rule " + sizes)
            self.refuses(desk, NoTile, "drop a", tile="a")
            self.refuses(desk, NoTile, "counts b 0", tile="b")
            self.does(desk, "sizes 1 2", "block a aa")
            # The sign went with the block.
            self.says(desk, "still a 0 0", "a")

    def test_sizes_that_are_none(self):
        desk = desk_of(["block a aa"])
        for sizes in ("1 1", "0 1", "1 0", "0 0", "5 1", "1 5", "5 5", "4 5", "9" * 40 + " 2", "2 " + "9" * 40):
            self.refuses(desk, NoRule, "sizes " + sizes, number=-1)
            self.says(desk, "grow a 2", "aaaa")

    def test_block(self):
        desk = Desk()
        self.does(desk, "block b ba", "block a ab")
        self.says(desk, "rule", "rule 1 2 ; a ab ; b ba")
        self.does(desk, "block a bb")
        self.says(desk, "rule", "rule 1 2 ; a bb ; b ba")
        self.does(desk, "sizes 2 3", "block z zzz/zyz", "block y yyy/zzz")
        self.says(desk, "rule", "rule 2 3 ; y yyy/zzz ; z zzz/zyz")

    def test_a_block_that_is_not_of_the_sizes(self):
        desk = desk_of(["sizes 2 2", "block a aa/aa"])
        for floor in ("a", "aa", "a/a", "aaa/aaa", "aa/aa/aa", "aaaa", "/".join(["a" * 64] * 64), "a/b/c/d"):
            self.refuses(desk, NoFloor, "block a " + floor)
            self.refuses(desk, NoFloor, "block b " + floor)
        self.says(desk, "rule", "rule 2 2 ; a aa/aa")

    def test_the_sign_of_a_block(self):
        desk = desk_of(["block a ab", "block b bb"])
        self.says(desk, "still a 0 0", "a")
        self.says(desk, "still a 0 1", "b")
        self.does(desk, "paint a x", "paint b y")
        self.says(desk, "still a 0 0", "x")
        self.says(desk, "still a 0 1", "y")
        # It had a block, so its sign stays.
        self.does(desk, "block a aa")
        self.says(desk, "still a 0 1", "x")
        # Dropped and laid again its sign is itself.
        self.does(desk, "drop a", "block a ab")
        self.says(desk, "still a 0 0", "a")
        self.says(desk, "still a 0 1", "y")

    def test_drop(self):
        desk = desk_of(["block a ab", "block b bb"])
        self.does(desk, "drop b")
        self.says(desk, "rule", "rule 1 2 ; a ab")
        self.refuses(desk, NoTile, "drop b", tile="b")
        self.refuses(desk, NoTile, "drop z", tile="z")
        self.does(desk, "drop a")
        self.says(desk, "rule", "rule 1 2")

    def test_paint(self):
        desk = desk_of(["block a ab", "block b ba"])
        self.does(desk, "paint a z", "paint a z", "paint b b")
        self.says(desk, "still a 0 0", "z")
        self.refuses(desk, NoTile, "paint c a", tile="c")
        self.refuses(desk, NoTile, "paint z a", tile="z")
        # Tiles go by their own names, not by their signs.
        self.says(desk, "grow a 1", "ab")
        self.says(desk, "tile a 1 0 0", "a")
        self.says(desk, "rule", "rule 1 2 ; a ab ; b ba")

    def test_a_tile_in_a_block_may_lack_its_own(self):
        desk = desk_of(["block a zz", "block b ab"])
        self.says(desk, "rule", "rule 1 2 ; a zz ; b ab")
        self.does(desk, "paint a q", "drop b")
        self.refuses(desk, NoTile, "paint z q", tile="z")


class BackTest(DeskAsker):
    ROWS = [
        "block a ab", "block b ba", "paint a x", "paint a y", "block a bb", "drop b", "block b aa", "paint b x",
        "sizes 2 2", "block a aa/ab", "block b bb/bb", "sizes 2 2", "sizes 1 2", "block a aa",
    ]
    QUESTIONS = ["rule", "grow a 2", "still a 0 1", "still b 0 0", "still a 1 1", "counts a 5", "same a b",
                 "pieces a 1 2"]

    def seen(self, desk):
        return [outcome(desk, row) for row in self.QUESTIONS]

    def test_through_all_deeds(self):
        desk = Desk()
        states = [self.seen(desk)]
        for row in self.ROWS:
            self.does(desk, row)
            states.append(self.seen(desk))
        for number in reversed(range(len(self.ROWS))):
            self.does(desk, "back")
            self.assertEqual(self.seen(desk), states[number])
            self.assertEqual(self.seen(desk_of(self.ROWS[:number])), states[number])
        self.refuses(desk, NoRow, "back")
        self.refuses(desk, NoRow, "back")
        self.assertEqual(self.seen(desk), self.seen(Desk()))
        self.does(desk, *self.ROWS)
        self.assertEqual(self.seen(desk), states[-1])

    def test_back_is_no_deed_of_its_own(self):
        desk = desk_of(["block a aa", "block a ab", "back"])
        self.says(desk, "rule", "rule 1 2 ; a aa")
        self.does(desk, "back")
        self.says(desk, "rule", "rule 1 2")
        self.refuses(desk, NoRow, "back")

    def test_a_deed_behind_back(self):
        desk = desk_of(["block a aa", "block b bb", "back", "block c cc"])
        self.says(desk, "rule", "rule 1 2 ; a aa ; c cc")
        self.does(desk, "back", "back")
        self.says(desk, "rule", "rule 1 2")
        self.refuses(desk, NoRow, "back")

    def test_a_deed_that_changed_nothing_is_undone_too(self):
        desk = desk_of(["block a aa", "block a aa", "paint a a", "sizes 1 2", "sizes 1 2"])
        self.does(desk, "back", "back", "back", "back")
        self.says(desk, "rule", "rule 1 2 ; a aa")
        self.does(desk, "back")
        self.says(desk, "rule", "rule 1 2")

    def test_what_was_refused_or_asked_is_not_undone(self):
        desk = desk_of(["block a aa", "block b bb"])
        self.refuses(desk, NoRule, "sizes 1 1", number=-1)
        self.refuses(desk, NoFloor, "block a a")
        self.refuses(desk, NoTile, "drop c", tile="c")
        self.refuses(desk, NoRow, "block")
        self.says(desk, "grow b 1", "bb")
        self.does(desk, "back")
        self.says(desk, "rule", "rule 1 2 ; a aa")

    def test_sizes_undone_bring_blocks_and_signs_again(self):
        desk = desk_of(["block a ab", "block b bb", "paint b q", "sizes 4 4", "back"])
        self.says(desk, "rule", "rule 1 2 ; a ab ; b bb")
        self.says(desk, "still a 0 1", "q")

    def test_very_many_deeds(self):
        desk = Desk()
        for number in range(3000):
            self.does(desk, "block " + ALPHABET[number % 26] + " a" + ALPHABET[number % 7])
        for number in range(3000):
            self.does(desk, "back")
        self.refuses(desk, NoRow, "back")
        self.says(desk, "rule", "rule 1 2")


class QuestionsTest(DeskAsker):
    def test_rule(self):
        for rule in (CHESS, STRIPE, TOWER, FLAT, LONELY, GREAT_RULES[1]):
            rows = ["rule " + str(rule[0]) + " " + str(rule[1])]
            rows += [tile + " " + "/".join(block) for tile, block in rule[2]]
            desk = desk_of(deeds_of(rule)[:1] + deeds_of(rule)[:0:-1])
            self.says(desk, "rule", " ; ".join(rows))
            self.does(desk, "drop " + tiles_of(rule)[0])
            self.says(desk, "rule", " ; ".join(rows[:1] + rows[2:]))

    def test_grow(self):
        desk = desk_of(deeds_of(CHESS))
        self.says(desk, "grow a 0", "a")
        self.says(desk, "grow a 1", "ab/ba")
        self.says(desk, "grow a 2", "abcc/baab/ccab/abba")
        for often in range(7):
            self.says(desk, "grow c " + str(often), "/".join(grown_often(CHESS, ("c",), often)))
        self.refuses(desk, TooGreat, "grow a 7", many=128, most=64)
        self.refuses(desk, TooGreat, "grow a 1000", many=2 ** 1000, most=64)
        desk = desk_of(deeds_of(STRIPE))
        self.says(desk, "grow b 6", "".join(grown_often(STRIPE, ("b",), 6)))
        self.refuses(desk, TooGreat, "grow b 7", many=128, most=64)
        desk = desk_of(deeds_of(FLAT))
        self.refuses(desk, TooGreat, "grow a 4", many=81, most=64)
        self.refuses(desk, TooGreat, "grow a 7", many=128, most=64)
        self.refuses(desk, TooGreat, "grow a 1000", many=2 ** 1000, most=64)
        self.refuses(desk_of(deeds_of(TOWER)), TooGreat, "grow a 1000", many=3 ** 1000, most=64)

    def test_numbers_beyond_a_thousand(self):
        desk = desk_of(deeds_of(CHESS))
        for word in ("grow", "counts"):
            for number in ("1001", "9999", "1" + "0" * 39, "9" * 40):
                self.refuses(desk, NoNumber, word + " a " + number)
        self.assertTrue(desk.say("counts a 1000"))

    def test_tile_and_line(self):
        for rule in (CHESS, STRIPE, TOWER, FLAT, GREAT_RULES[1]):
            desk = desk_of(deeds_of(rule))
            for growings in (0, 1, 2, 30, 60):
                rows, columns = rule[0] ** growings, rule[1] ** growings
                for row, column in ((0, 0), (rows - 1, columns - 1), (rows // 2, columns // 3)):
                    tail = " b " + str(growings) + " " + str(row) + " " + str(column)
                    self.says(desk, "tile" + tail, tile_far(rule, "b", growings, row, column))
                    self.says(desk, "line" + tail, " ".join(line_far(rule, "b", growings, row, column)))
        desk = desk_of(deeds_of(CHESS))
        self.says(desk, "tile a 2 0 2", "c")
        self.says(desk, "line a 2 2 3", "a a b")
        self.says(desk, "line a 0 0 0", "a")

    def test_tile_and_line_refused(self):
        desk = desk_of(deeds_of(CHESS))
        for word in ("tile", "line"):
            self.refuses(desk, NoTile, word + " d 61 9 9", tile="d")
            self.refuses(desk, NoNumber, word + " a 61 9 9")
            self.refuses(desk, NoNumber, word + " a 61 0 0")
            self.refuses(desk, NoNumber, word + " a " + "9" * 40 + " 0 0")
            self.refuses(desk, NoPlace, word + " a 2 4 0")
            self.refuses(desk, NoPlace, word + " a 2 0 4")
            self.refuses(desk, NoPlace, word + " a 0 1 0")
            self.refuses(desk, NoPlace, word + " a 60 " + str(2 ** 60) + " 0")
            self.refuses(desk, NoPlace, word + " a 60 0 " + "9" * 40)

    def test_counts(self):
        desk = desk_of(deeds_of(CHESS))
        self.says(desk, "counts a 0", "a 1 b 0 c 0")
        self.says(desk, "counts a 2", "a 6 b 6 c 4")
        for rule in (STRIPE, LONELY, TOWER, GREAT_RULES[1]):
            desk = desk_of(deeds_of(rule))
            for growings in (1, 60, 999, 1000):
                counts = tile_counts(rule, "a", growings)
                self.says(desk, "counts a " + str(growings), " ".join(tile + " " + str(many) for tile, many in counts))

    def test_counts_of_every_length(self):
        for high, wide in ((1, 2), (1, 3), (2, 2), (4, 4)):
            desk = desk_of(deeds_of(even_rule(high, wide, "a")))
            for growings in list(range(250)) + [1000]:
                self.assertEqual(desk.say("counts a " + str(growings)), "a " + str((high * wide) ** growings))

    def test_pieces(self):
        desk = desk_of(deeds_of(CHESS))
        self.says(desk, "pieces a 1 2", "8 aa cc")
        self.says(desk, "pieces a 1 1", "3 a c")
        for high, wide in itertools.product((1, 2, 3), (1, 2, 3)):
            pieces = pieces_of(CHESS, "b", high, wide)
            expected = str(len(pieces)) + " " + "/".join(pieces[0]) + " " + "/".join(pieces[-1])
            self.says(desk, "pieces b " + str(high) + " " + str(wide), expected)
        desk = desk_of(deeds_of(STRIPE))
        self.says(desk, "pieces a 2 1", "0")
        self.says(desk, "pieces a 2 2", "0")
        self.says(desk, "pieces c 1 3", "1 ccc ccc")
        self.says(desk, "pieces c 1 1", "1 c c")
        desk = desk_of(deeds_of(TOWER))
        self.says(desk, "pieces a 1 2", "0")
        pieces = pieces_of(TOWER, "a", 2, 1)
        self.says(desk, "pieces a 2 1", str(len(pieces)) + " a/a c/c")

    def test_pieces_refused(self):
        desk = desk_of(deeds_of(CHESS))
        for sizes in ("0 1", "1 0", "4 1", "1 4", "0 0", "4 4", "9" * 40 + " 1", "1 " + "9" * 40):
            self.refuses(desk, NoNumber, "pieces a " + sizes)
            self.refuses(desk, NoTile, "pieces z " + sizes, tile="z")

    def test_comes(self):
        desk = desk_of(deeds_of(CHESS))
        self.says(desk, "comes a c/b", "2 0 3")
        self.says(desk, "comes a a", "0 0 0")
        self.says(desk, "comes a abz", "never")
        self.says(desk, "comes a zzz/zzz/zzz", "never")
        for piece in ("cc", "ab/ba", "aba", "bb/ab", "acc/bab", "cca/aba/baa"):
            found = comes_at(CHESS, "b", tuple(piece.split("/")))
            self.says(desk, "comes b " + piece, "never" if found is None else " ".join(map(str, found)))
        self.says(desk_of(deeds_of(STRIPE)), "comes a aaa", "never")
        self.says(desk_of(deeds_of(STRIPE)), "comes a a/a", "never")

    def test_comes_refused(self):
        desk = desk_of(deeds_of(CHESS))
        for floor in ("aaaa", "a/a/a/a", "aaaa/aaaa", "/".join(["a" * 64] * 64), "zzzz"):
            self.refuses(desk, NoFloor, "comes a " + floor)
            self.refuses(desk, NoTile, "comes d " + floor, tile="d")

    def test_still(self):
        for rule in (CHESS, STRIPE, TOWER, FLAT, still_rule(4, 4, ALPHABET, 3)):
            paint = paint_of(rule, "pqr")
            desk = desk_of(deeds_of(rule, paint))
            for tile in stills_of(rule)[:3]:
                for row, column in itertools.product((0, 1, 77, FAR - 1), (0, 2, FAR // 3, FAR - 1)):
                    row, column = (0 if rule[0] == 1 else row), (0 if rule[1] == 1 else column)
                    self.says(desk, "still " + tile + " " + str(row) + " " + str(column),
                              sign_at((rule, tile, paint), row, column))

    def test_still_refused(self):
        desk = desk_of(deeds_of(CHESS, paint_of(CHESS, "x")))
        self.refuses(desk, NoTile, "still b 0 0", tile="b")
        self.refuses(desk, NoTile, "still d 0 0", tile="d")
        desk = desk_of(deeds_of(STRIPE))
        self.refuses(desk, NoPlace, "still a 1 0")
        self.refuses(desk, NoPlace, "still a " + "9" * 40 + " 0")
        self.says(desk, "still a 0 " + "9" * 40, sign_at((STRIPE, "a", paint_of(STRIPE, "abc")), 0, FAR - 1))
        # A number of 41 figures is not written so, so 10 ** 40 itself can't be told here.
        self.refuses(desk, NoRow, "still a 0 1" + "0" * 40)
        desk = desk_of(deeds_of(TOWER))
        self.refuses(desk, NoPlace, "still a 0 1")
        desk = desk_of(deeds_of(TURNS))
        self.refuses(desk, NoTile, "still a 5 5", tile="a")

    def test_same(self):
        desk = desk_of(deeds_of(STRIPE))
        self.says(desk, "same a a", "alike")
        self.says(desk, "same a b", "0 0")
        self.does(desk, "paint b a")
        self.says(desk, "same a b", "alike")
        self.does(desk, "paint c a")
        self.says(desk, "same a c", "alike")
        self.does(desk, "paint b b")
        self.says(desk, "same a c", "0 1")
        self.says(desk, "same c a", "0 1")
        for seed in range(6):
            rule = still_rule(2, 2, "abcde", seed)
            paint = paint_of(rule, "xxxxy")
            desk = desk_of(deeds_of(rule, paint))
            for one, other in itertools.product("abcde", "abcde"):
                found = first_unlike((rule, one, paint), (rule, other, paint))
                self.says(desk, "same " + one + " " + other,
                          "alike" if found is None else str(found[0]) + " " + str(found[1]))

    def test_same_late(self):
        # Two wheels of 11 and of 12 tiles have like signs 21 times; in all there are 25 tiles.
        one, other = ALPHABET[1:12], ALPHABET[13:25]
        blocks = {"a": "ab", "m": "mn"}
        blocks.update({tile: after * 2 for tile, after in zip(one, one[1:] + one[0])})
        blocks.update({tile: after * 2 for tile, after in zip(other, other[1:] + other[0])})
        rows = ["block " + tile + " " + blocks[tile] for tile in blocks]
        rows += ["paint " + tile + " x" for tile in blocks] + ["paint l y", "paint x y"]
        desk = desk_of(rows)
        self.says(desk, "same a m", "0 " + str(2 ** 21))
        self.says(desk, "still a 0 " + str(2 ** 21), "y")
        self.says(desk, "still m 0 " + str(2 ** 21), "x")

    def test_same_refused(self):
        desk = desk_of(deeds_of(CHESS))
        self.refuses(desk, NoTile, "same b a", tile="b")
        self.refuses(desk, NoTile, "same a b", tile="b")
        self.refuses(desk, NoTile, "same b b", tile="b")
        self.refuses(desk, NoTile, "same z y", tile="z")
        self.refuses(desk, NoTile, "same a y", tile="y")
        self.refuses(desk, NoTile, "same z a", tile="z")
        # That U has no block goes ahead of T not being still.
        self.refuses(desk, NoTile, "same b z", tile="z")
        desk = desk_of(deeds_of(TURNS))
        self.refuses(desk, NoTile, "same a b", tile="a")
        self.refuses(desk, NoTile, "same c a", tile="c")


class LackingTest(DeskAsker):
    TAILS = ["grow {} 2", "grow {} 1001", "tile {} 1 0 0", "tile {} 61 0 0", "line {} 1 0 0", "line {} 1 9 9",
             "counts {} 1", "counts {} 1001", "pieces {} 1 1", "pieces {} 0 0", "comes {} ab", "comes {} abab",
             "still {} 0 0", "still {} 9 9", "same {} a", "same a {}", "same {} {}"]

    def test_the_least_tile_that_stands_in_a_block_and_has_none(self):
        desk = desk_of(["block b qy", "block a am"])
        for tail in self.TAILS:
            for tile in "abmz":
                self.refuses(desk, NoTile, tail.replace("{}", tile), tile="m")
        self.does(desk, "block m mm")
        for tail in self.TAILS:
            self.refuses(desk, NoTile, tail.replace("{}", "a"), tile="q")
            self.refuses(desk, NoTile, tail.replace("{}", "c"), tile="q")
        self.does(desk, "block q ba", "block y yy")
        self.says(desk, "grow b 2", "bayy")

    def test_a_tile_that_is_told_and_has_no_block(self):
        desk = desk_of(["block a ab", "block b ba"])
        for tail in self.TAILS:
            for tile in "cz":
                self.refuses(desk, NoTile, tail.replace("{}", tile), tile=tile)

    def test_a_block_that_was_dropped(self):
        desk = desk_of(["block a ab", "block b ba", "drop a"])
        for tail in self.TAILS:
            self.refuses(desk, NoTile, tail.replace("{}", "b"), tile="a")
        self.says(desk, "rule", "rule 1 2 ; b ba")
        self.does(desk, "back")
        self.says(desk, "grow a 1", "ab")

    def test_where_nothing_is_laid(self):
        for tail in self.TAILS:
            self.refuses(Desk(), NoTile, tail.replace("{}", "a"), tile="a")


class NoRowTest(DeskAsker):
    GOOD = ["sizes 1 2", "block a ab", "drop a", "paint a x", "back", "rule", "grow a 2", "tile a 1 0 0",
            "line a 1 0 0", "counts a 1", "pieces a 1 1", "comes a ab", "still a 0 0", "same a b"]
    TILES = {"block": [1], "drop": [1], "paint": [1, 2], "grow": [1], "tile": [1], "line": [1], "counts": [1],
             "pieces": [1], "comes": [1], "still": [1], "same": [1, 2]}
    NUMBERS = {"sizes": [1, 2], "grow": [2], "tile": [2, 3, 4], "line": [2, 3, 4], "counts": [2], "pieces": [2, 3],
               "still": [2, 3]}
    FLOORS = {"block": [2], "comes": [2]}

    def desk(self):
        return desk_of(["block a ab", "block b ba"])

    def none_of(self, row):
        for desk in (self.desk(), Desk(), desk_of(["block a zz"])):
            self.refuses(desk, NoRow, row)

    def changed(self, places, words):
        for row in self.GOOD:
            parts = row.split(" ")
            for place in places.get(parts[0], []):
                for word in words:
                    self.none_of(" ".join(parts[:place] + [word] + parts[place + 1:]))

    def test_the_good_ones_are_rows(self):
        for row in self.GOOD:
            self.assertIs(self.desk().say(row).__class__, str)

    def test_no_text(self):
        for thing in odd_things() + [None, 5, ["rule"], ("rule",), {"rule": "rule"}, [["back"]], True]:
            if not isinstance(thing, str):
                self.none_of(thing)

    def test_texts_of_odd_things(self):
        for thing in odd_things():
            if isinstance(thing, str):
                self.none_of(thing)

    def test_other_words(self):
        for row in ("", " ", "Rule", "rules", "RULE", "rul", "a", "ok", "undo", "sizes", "growa 2", "quit", "help", "0",
                    "never", "alike", "size 1 2", "blocks a ab", "paints a x", "dropp a", "rule;", "say", "states"):
            self.none_of(row)

    def test_one_word_more_or_fewer(self):
        for row in self.GOOD:
            for more in (" a", " 1", " ab", " ", "  ", " " + row, " 0", "\n", "\nrule"):
                self.none_of(row + more)
            self.none_of(" " + row)
            if " " in row:
                self.none_of(row.rpartition(" ")[0])
                self.none_of(row.rpartition(" ")[0] + " ")
                self.none_of(row.replace(" ", "  ", 1))
                self.none_of(row.replace(" ", "\t"))
                self.none_of(row.replace(" ", "\n"))
                self.none_of(row.replace(" ", ""))
                self.none_of(row.partition(" ")[0])

    def test_words_that_are_no_tile(self):
        self.changed(self.TILES, ["", "A", "1", "ab", "aa", "~", "/", "a/", "-", "a\n", "\na", "\n", "Z", "a,"])

    def test_words_that_are_no_number(self):
        self.changed(self.NUMBERS, [
            "", "a", "-1", "+1", "01", "00", "1.", "1.0", "1e1", "0x1", "1_0", "one", "1\n", "\n1", "\n", "1" * 41,
            "1" + "0" * 40, "0" * 40 + "1", "0" * 41, "~", "1,", "1/1", "\u0661", "\u00b9", "9" * 5000,
        ])

    def test_words_that_are_no_floor(self):
        self.changed(self.FLOORS, [
            "", "/", "ab/", "/ab", "ab//ab", "ab/a", "AB", "a1", "1", "ab\n", "ab\nba", "ab/b ", "a" * 65,
            "/".join("a" * 65), "ab,ba", "~", "aB", "ab-ba", "\n",
        ])

    def test_each_sign_put_in_somewhere(self):
        for row in self.GOOD:
            for place in range(len(row) + 1):
                for sign in SIGNS + ["\n", "\t"]:
                    if not sign.isalnum() and sign != "/":
                        self.none_of(row[:place] + sign + row[place:])

    def test_ahead_of_all_else(self):
        desk = desk_of(["block a zz"])
        for row in ("grow q 2 2", "grow Q 2", "grow q -1", "sizes 1 1 1", "block a abc/", "drop zz", "paint z X",
                    "tile q 61 0 -1", "comes q A", "still q 01 0", "same q Q", "pieces q 0 a", "back 1"):
            self.refuses(desk, NoRow, row)
        self.refuses(Desk(), NoRow, "drop A")

    def test_numbers_of_forty_figures_are_numbers(self):
        desk = self.desk()
        self.refuses(desk, NoNumber, "grow a " + "9" * 40)
        self.refuses(desk, NoRule, "sizes " + "9" * 40 + " 1", number=-1)
        self.refuses(desk, NoPlace, "tile a 1 " + "9" * 40 + " 0")
        self.refuses(desk, NoNumber, "pieces a " + "9" * 40 + " 1")
        self.says(desk, "grow a 0", "a")
        self.says(desk, "still a 0 0", "a")


class GreatestTest(DeskAsker):
    def test_26_tiles_with_blocks_of_4_by_4(self):
        rule = still_rule(4, 4, ALPHABET, 3)
        desk = desk_of(deeds_of(rule, paint_of(rule, ALPHABET[::-1])))
        self.assertEqual(desk.say("counts q 1000").split()[::2], list(ALPHABET))
        self.assertEqual(sum(int(word) for word in desk.say("counts q 1000").split()[1::2]), 16 ** 1000)
        self.refuses(desk, TooGreat, "grow a 1000", many=4 ** 1000, most=64)
        self.says(desk, "grow z 3", "/".join(grown_often(rule, ("z",), 3)))
        pieces = pieces_of(rule, "a", 3, 3)
        expected = str(len(pieces)) + " " + "/".join(pieces[0]) + " " + "/".join(pieces[-1])
        self.says(desk, "pieces a 3 3", expected)
        self.says(desk, "still e " + "9" * 40 + " " + "9" * 40,
                  sign_at((rule, "e", paint_of(rule, ALPHABET[::-1])), FAR - 1, FAR - 1))
        self.says(desk, "same a b", "0 0")
        self.says(desk, "tile a 60 " + str(4 ** 60 - 1) + " 0", tile_far(rule, "a", 60, 4 ** 60 - 1, 0))

    def test_a_piece_that_comes_so_late_that_its_place_has_thousands_of_figures(self):
        # Where four blocks meet four wheels of 13, 11, 9 and 8 tiles turn, each by its own corner of the blocks.
        wheels = [dict(zip(ALPHABET[:many], ALPHABET[1:many] + "a")) for many in (8, 9, 11, 13)]
        rows = ["sizes 3 3", "block z zzz/zzz/zzz", "block y zzz/zaa/zaa"]
        for tile in ALPHABET[:13]:
            corners = [wheel.get(tile, tile) for wheel in wheels]
            rows.append("block " + tile + " " + corners[0] + "z" + corners[1] + "/zzz/" + corners[2] + "z" + corners[3])
        desk = desk_of(rows)
        late = 13 * 11 * 9 * 8 - 1
        piece = (ALPHABET[late % 13] + ALPHABET[late % 11], ALPHABET[late % 9] + ALPHABET[late % 8])
        answer = desk.say("comes y " + "/".join(piece))
        blocks = tuple(sorted((row.split()[1], tuple(row.split()[2].split("/"))) for row in rows[1:]))
        found = comes_at((3, 3, blocks), "y", piece)
        self.assertEqual(found[0], late + 1)
        words = answer.split(" ")
        self.assertEqual(len(words), 3)
        self.assertEqual(words[0], str(late + 1))
        self.assertGreater(len(words[1]), 4300)
        most = sys.get_int_max_str_digits()
        sys.set_int_max_str_digits(0)
        try:
            self.assertEqual([str(number) for number in found], words)
        finally:
            sys.set_int_max_str_digits(most)


class ManyRowsTest(DeskAsker):
    """Rows without order, against deeds that are told anew to a desk of their own, and against the modules."""

    def row(self, source):
        tile, other = source.choice("abc"), source.choice("abcd")
        number = str(source.choice([0, 1, 2, 3, 5, 61, 1001]))
        floor = "/".join("".join(source.choice("abcc") for column in range(source.choice([1, 2, 2])))
                         for row in range(source.choice([1, 1, 2])))
        return source.choice([
            "sizes " + source.choice(["1 2", "1 2", "2 1", "2 2", "1 1", "0 3"]), "block " + tile + " " + floor,
            "block " + tile + " " + source.choice("abc") + source.choice("abc"),
            "block a ab", "block b ba", "block c ca",
            "drop " + other, "paint " + tile + " " + source.choice("abxy"), "paint " + other + " x", "back", "back",
            "rule", "grow " + other + " " + number, "tile " + tile + " " + number + " 0 1", "line " + tile + " 2 0 3",
            "counts " + other + " " + number, "pieces " + tile + " 1 " + number, "comes " + tile + " " + floor,
            "still " + tile + " 0 " + number, "same " + tile + " " + other, "nothing", "back back", "",
        ])

    def test_hangs_on_the_deeds_that_stand_alone(self):
        for seed in range(12):
            source = random.Random(seed)
            desk, standing = Desk(), []
            for number in range(150):
                row = self.row(source)
                fresh = desk_of(standing)
                if row == "back":
                    expected = "ok" if standing else (NoRow, {})
                else:
                    expected = outcome(fresh, row)
                self.assertEqual(outcome(desk, row), expected, row)
                if expected == "ok":
                    standing = standing[:-1] if row == "back" else standing + [row]
                self.assertEqual(rule_row(desk), rule_row(desk_of(standing)))

    def test_against_the_modules(self):
        met = set()
        for seed in range(40):
            source = random.Random(1000 + seed)
            desk, model = Desk(), Model()
            for number in range(120):
                row = self.row(source)
                expected = model.say(row)
                self.assertEqual(outcome(desk, row), expected, row)
                met.add((row.partition(" ")[0], expected[0] if isinstance(expected, tuple) else "told"))
        for word in ("grow", "tile", "line", "counts", "pieces", "comes", "still", "same"):
            self.assertIn((word, "told"), met)
            self.assertIn((word, NoTile), met)
        for pair in (("grow", NoNumber), ("grow", TooGreat), ("counts", NoNumber), ("tile", NoNumber),
                     ("pieces", NoNumber), ("sizes", NoRule), ("block", NoFloor), ("drop", NoTile), ("back", NoRow)):
            self.assertIn(pair, met)


class Model:
    """The words of 10.2 and 10.3 in another form: deeds that stand are gone through anew for each row."""

    def __init__(self):
        self.deeds = []

    def state(self):
        sizes, blocks, signs = (1, 2), {}, {}
        for words in self.deeds:
            if words[0] == "sizes":
                sizes, blocks, signs = (int(words[1]), int(words[2])), {}, {}
            elif words[0] == "block":
                if words[1] not in blocks:
                    signs[words[1]] = words[1]
                blocks[words[1]] = tuple(words[2].split("/"))
            elif words[0] == "drop":
                del blocks[words[1]], signs[words[1]]
            else:
                signs[words[1]] = words[2]
        return sizes, blocks, signs

    def say(self, row):
        words = row.split(" ")
        if words == ["back"]:
            if not self.deeds:
                return (NoRow, {})
            self.deeds.pop()
            return "ok"
        try:
            return self.told(words)
        except FloorError as error:
            return (error.__class__, vars(error))

    def told(self, words):
        sizes, blocks, signs = self.state()
        if words[0] in ("nothing", "", "back"):
            raise NoRow()
        if words[0] in ("block", "comes") and len({len(row) for row in words[2].split("/")}) > 1:
            raise NoRow()
        if words[0] == "rule":
            return " ; ".join(["rule %d %d" % sizes] + [tile + " " + "/".join(blocks[tile]) for tile in sorted(blocks)])
        if words[0] in ("sizes", "block", "drop", "paint"):
            return self.done(words, sizes, blocks)
        for tile in sorted(set("".join("".join(block) for block in blocks.values()))):
            if tile not in blocks:
                raise NoTile(tile)
        for tile in [words[1]] + ([words[2]] if words[0] == "same" else []):
            if tile not in blocks:
                raise NoTile(tile)
        rule = (sizes[0], sizes[1], tuple(sorted(blocks.items())))
        assert rule_good(rule)
        return self.answered(rule, tuple(sorted(signs.items())), words)

    def done(self, words, sizes, blocks):
        if words[0] == "sizes" and words[1:] in (["1", "1"], ["0", "3"]):
            raise NoRule(-1)
        if words[0] == "block":
            floor = words[2].split("/")
            if (len(floor), len(floor[0])) != sizes:
                raise NoFloor()
        if words[0] in ("drop", "paint") and words[1] not in blocks:
            raise NoTile(words[1])
        self.deeds.append(words)
        return "ok"

    def answered(self, rule, paint, words):
        tile, rest = words[1], [int(word) for word in words[2:] if word.isdigit()]
        if words[0] in ("grow", "counts") and rest[0] > 1000:
            raise NoNumber()
        if words[0] == "grow":
            return "/".join(grown_often(rule, (tile,), rest[0]))
        if words[0] == "tile":
            return tile_far(rule, tile, *rest)
        if words[0] == "line":
            return " ".join(line_far(rule, tile, *rest))
        if words[0] == "counts":
            return " ".join("%s %d" % pair for pair in tile_counts(rule, tile, rest[0]))
        if words[0] == "pieces":
            pieces = pieces_of(rule, tile, *rest)
            return " ".join([str(len(pieces))] + ["/".join(piece) for piece in pieces[:1] + pieces[-1:]])
        if words[0] == "comes":
            found = comes_at(rule, tile, tuple(words[2].split("/")))
            return "never" if found is None else " ".join(map(str, found))
        for own in [tile] + ([words[2]] if words[0] == "same" else []):
            if own not in stills_of(rule):
                raise NoTile(own)
        if words[0] == "still":
            return sign_at((rule, tile, paint), *rest)
        found = first_unlike((rule, tile, paint), (rule, words[2], paint))
        return "alike" if found is None else " ".join(map(str, found))


class TwoDesksTest(DeskAsker):
    def test_told_rows_in_turn(self):
        one, other = Desk(), Desk()
        for row, answer in (("block a ab", "rule 1 2"), ("block b ba", "rule 1 2")):
            self.does(one, row)
            self.says(other, "rule", answer)
        self.does(other, "sizes 2 1", "block a a/a", "paint a q")
        self.says(one, "rule", "rule 1 2 ; a ab ; b ba")
        self.says(one, "still a 0 0", "a")
        self.says(other, "still a 5 0", "q")
        self.does(one, "back")
        self.says(other, "rule", "rule 2 1 ; a a/a")
        self.does(other, "back", "back", "back")
        self.refuses(other, NoRow, "back")
        self.does(one, "back")
        self.refuses(one, NoRow, "back")
        self.says(other, "rule", "rule 1 2")

    def test_the_same_rows_to_two_desks(self):
        rows = deeds_of(CHESS, paint_of(CHESS, "xyz")) + ["back", "drop c", "grow a 2", "block c cc/cc", "grow a 2",
                                                          "still a 9 9", "same a c", "back", "rule", "nothing"]
        one, other, third = Desk(), Desk(), Desk()
        in_turn = [(outcome(one, row), outcome(other, row)) for row in rows]
        behind = [outcome(third, row) for row in rows]
        self.assertEqual(in_turn, list(zip(behind, behind)))

    def test_a_new_desk_is_as_at_first(self):
        desk_of(deeds_of(even_rule(4, 4, ALPHABET)))
        self.says(Desk(), "rule", "rule 1 2")


if __name__ == "__main__":
    unittest.main()
