"""7.1 to 7.5: tiles among themselves, and 0.2, 0.3, 0.4 as far as they speak of them."""

import copy
import unittest

from samples import (
    ALPHABET, CHESS, FLAT, GREAT_RULES, LONELY, MANY_RULES, PARTED, STRIPE, TOWER, TURNS, Asker, even_rule, laid_far,
    laid_sizes, odd_numbers, odd_things, tangled_rule, tiles_of,
)
from tilegrow.counts import tile_counts
from tilegrow.families import (
    comes_after, corner_round, corner_tile, mixing_time, shut_groups, still_tiles, tile_groups, unmixed_holds,
    why_unmixed,
)
from tilegrow.far import cut_far, tile_far
from tilegrow.rules import mirrored_rule, turned_rule
from tilegrow.shares import still_shares

CORNERS = [(0, 0), (0, 1), (1, 0), (1, 1)]

# Each tile lays the next one, the last one the first and the second: it takes as long to mix as can be.
SLOW = (1, 2, tuple((tile, (after * 2,)) for tile, after in zip(ALPHABET, ALPHABET[1:])) + (("z", ("ab",)),))


def wheels_rule(wheels, start):
    """Wheels of tiles that lay the next one of theirs, and a tile z that lays these first ones."""
    blocks = []
    for wheel in wheels:
        blocks += [(tile, (after * len(start),)) for tile, after in zip(wheel, wheel[1:] + wheel[0])]
    return (1, len(start), tuple(sorted(blocks)) + (("z", (start,)),))


# The tiles of z's floors come again after 2 * 3 * 5 * 7 growings.
WHEELS = wheels_rule(["ab", "cde", "fghij", "klmnopq"], "acfk")
# All come of each other, by turns of 3; the floors of a have all tiles of a turn from the second growing on alone.
UNEVEN = (1, 2, (
    ("a", ("bb",)), ("b", ("cf",)), ("c", ("aa",)), ("d", ("ee",)), ("e", ("cc",)), ("f", ("da",)),
))
SEVERAL = MANY_RULES + GREAT_RULES + [SLOW, WHEELS, UNEVEN] + [
    tangled_rule(1, 2, ALPHABET[:many], seed) for many in (2, 3, 5, 8) for seed in range(12)
]


def tiles_after(rule, tile, most):
    """At index k the tiles that the floor of the tile has after k growings: sets."""
    block_of = {own: set("".join(block)) for own, block in rule[2]}
    found = [{tile}]
    for growing in range(most):
        found.append(set().union(*(block_of[own] for own in found[-1])))
    return found


class ComesAfterTest(Asker):
    def test_ordinary_rules(self):
        self.assertEqual(self.told(comes_after, STRIPE, "a"), [("a", 0), ("b", 1), ("c", None)])
        self.assertEqual(self.told(comes_after, CHESS, "a"), [("a", 0), ("b", 1), ("c", 2)])
        self.assertEqual(self.told(comes_after, LONELY, "b"), [("a", None), ("b", 0), ("c", None)])
        self.assertEqual(self.told(comes_after, LONELY, "c"), [("a", 1), ("b", 1), ("c", 0)])
        self.assertEqual(self.told(comes_after, PARTED, "z"), [("a", 1), ("b", 2), ("k", 1), ("m", 2), ("z", 0)])

    def test_against_laid_floors(self):
        for rule in SEVERAL:
            laid = laid_sizes(rule, 300)
            for tile in tiles_of(rule)[:4]:
                floors = ["".join(laid_far(rule, tile, growings)) for growings in laid]
                told = comes_after(rule, tile)
                self.assertEqual([other for other, often in told], tiles_of(rule))
                for other, often in told:
                    found = [growings for growings in laid if other in floors[growings]]
                    if found:
                        self.assertEqual(often, found[0])
                    else:
                        self.assertTrue(often is None or often > laid[-1])

    def test_none_where_it_never_does(self):
        for rule in SEVERAL:
            for tile in tiles_of(rule):
                ever = set().union(*tiles_after(rule, tile, len(rule[2])))
                for other, often in comes_after(rule, tile):
                    self.assertEqual(often is not None, other in ever)

    def test_26_tiles(self):
        self.assertEqual(self.told(comes_after, SLOW, "a"), [(tile, number) for number, tile in enumerate(ALPHABET)])
        self.assertEqual(dict(self.told(comes_after, SLOW, "b"))["a"], 25)
        for rule in GREAT_RULES:
            for tile in ALPHABET:
                sets = tiles_after(rule, tile, 40)
                expected = [
                    (other, next((number for number, tiles in enumerate(sets) if other in tiles), None))
                    for other in ALPHABET
                ]
                self.assertEqual(self.told(comes_after, rule, tile), expected)

    def test_no_tile(self):
        for thing in odd_things() + ["d", "z", "ab", ("a",), ["a"]]:
            self.no_tile(thing, comes_after, CHESS, thing)


class GroupsTest(Asker):
    def test_ordinary_rules(self):
        self.assertEqual(self.told(tile_groups, CHESS), [("a", "b", "c")])
        self.assertEqual(self.told(shut_groups, CHESS), [("a", "b", "c")])
        self.assertEqual(self.told(tile_groups, STRIPE), [("a", "b"), ("c",)])
        self.assertEqual(self.told(shut_groups, STRIPE), [("a", "b"), ("c",)])
        self.assertEqual(self.told(tile_groups, LONELY), [("a",), ("b",), ("c",)])
        self.assertEqual(self.told(shut_groups, LONELY), [("b",)])
        self.assertEqual(self.told(tile_groups, PARTED), [("a", "b"), ("k", "m"), ("z",)])
        self.assertEqual(self.told(shut_groups, PARTED), [("a", "b"), ("k", "m")])
        self.assertEqual(self.told(tile_groups, TURNS), [("a", "b", "c")])

    def test_groups_that_lie_across_one_another(self):
        rule = (1, 2, (("a", ("cc",)), ("b", ("dd",)), ("c", ("ae",)), ("d", ("bd",)), ("e", ("ee",))))
        self.assertEqual(self.told(tile_groups, rule), [("a", "c"), ("b", "d"), ("e",)])
        self.assertEqual(self.told(shut_groups, rule), [("b", "d"), ("e",)])

    def test_as_many_as_tiles(self):
        for many in (1, 2, 26):
            tiles = ALPHABET[:many]
            self.assertEqual(self.told(tile_groups, even_rule(2, 2, tiles)), [(tile,) for tile in tiles])
            self.assertEqual(self.told(shut_groups, even_rule(2, 2, tiles)), [(tile,) for tile in tiles])
        chain = (1, 2, tuple((tile, (tile + after,)) for tile, after in zip(ALPHABET, ALPHABET[1:] + "z")))
        self.assertEqual(self.told(tile_groups, chain), [(tile,) for tile in ALPHABET])
        self.assertEqual(self.told(shut_groups, chain), [("z",)])

    def test_one_group_of_26(self):
        self.assertEqual(self.told(tile_groups, SLOW), [tuple(ALPHABET)])
        self.assertEqual(self.told(shut_groups, SLOW), [tuple(ALPHABET)])
        self.assertEqual(self.told(tile_groups, GREAT_RULES[1]), [tuple(ALPHABET)])

    def test_several_shut_ones(self):
        wheels = [("a", "b"), ("c", "d", "e"), tuple("fghij"), tuple("klmnopq")]
        self.assertEqual(self.told(tile_groups, WHEELS), wheels + [("z",)])
        self.assertEqual(self.told(shut_groups, WHEELS), wheels)

    def test_by_who_comes_of_whom(self):
        for rule in SEVERAL:
            ever = {tile: set().union(*tiles_after(rule, tile, len(rule[2]))) for tile in tiles_of(rule)}
            groups = sorted({
                tuple(sorted(other for other in ever[tile] if tile in ever[other])) for tile in tiles_of(rule)
            })
            self.assertEqual(self.told(tile_groups, rule), groups)
            shut = [group for group in groups if all(ever[tile] == set(group) for tile in group)]
            self.assertEqual(self.told(shut_groups, rule), shut)
            self.assertTrue(shut)


class MixingTest(Asker):
    def test_rules_that_mix_soon(self):
        self.assertEqual(self.told(mixing_time, even_rule(2, 2)), 1)
        self.assertEqual(self.told(mixing_time, (1, 2, (("a", ("ab",)), ("b", ("ba",))))), 1)
        self.assertEqual(self.told(mixing_time, CHESS), 2)
        self.assertEqual(self.told(mixing_time, (1, 2, (("a", ("ab",)), ("b", ("aa",))))), 2)
        for rule in (even_rule(2, 2), CHESS):
            self.assertIsNone(self.told(why_unmixed, rule))

    def test_a_rule_that_mixes_late(self):
        # No rule of so many tiles mixes later: 25 * 25 + 1.
        self.assertEqual(self.told(mixing_time, SLOW), 626)
        self.assertIsNone(self.told(why_unmixed, SLOW))
        for many in range(2, 10):
            tiles = ALPHABET[:many]
            slow = (2, 1, tuple((tile, (after,) * 2) for tile, after in zip(tiles, tiles[1:])) + (
                (tiles[-1], ("a", "b")),))
            self.assertEqual(self.told(mixing_time, slow), (many - 1) ** 2 + 1)

    def test_rules_that_never_mix(self):
        for rule in (STRIPE, LONELY, PARTED, TURNS, WHEELS, UNEVEN, even_rule(2, 2, "ab"), even_rule(4, 4, ALPHABET)):
            self.assertIsNone(self.told(mixing_time, rule))
            self.yes(unmixed_holds, rule, self.told(why_unmixed, rule))

    def test_against_all_growings(self):
        met = set()
        for rule in SEVERAL:
            many = len(rule[2])
            sets = {tile: tiles_after(rule, tile, (many - 1) ** 2 + 2) for tile in tiles_of(rule)}
            found = [
                number for number in range(1, (many - 1) ** 2 + 2)
                if all(len(sets[tile][number]) == many for tile in sets)
            ]
            time = self.told(mixing_time, rule)
            self.assertEqual(time, found[0] if found else None)
            why = self.told(why_unmixed, rule)
            self.assertEqual(why is None, time is not None)
            met.add(time if time is None or time < 3 else 3)
            if why is not None:
                self.yes(unmixed_holds, rule, why)
                tile, other, lap, rest = why
                self.assertTrue(lap >= 1 and 0 <= rest < lap)
                for number, tiles in enumerate(sets[tile]):
                    if number % lap == rest:
                        self.assertNotIn(other, tiles)
        self.assertEqual(met, {None, 1, 2, 3})

    def test_a_tile_that_stands_in_no_block(self):
        rule = (1, 2, (("a", ("aa",)), ("b", ("aa",))))
        self.assertIsNone(self.told(mixing_time, rule))
        self.yes(unmixed_holds, rule, ("a", "b", 1, 0))
        # After no growing b has itself.
        self.no(unmixed_holds, rule, ("b", "b", 1, 0))
        self.yes(unmixed_holds, rule, ("b", "b", 2, 1))
        self.no(unmixed_holds, rule, ("b", "b", 2, 0))
        self.yes(unmixed_holds, rule, ("b", "b", 10 ** 99, 1))


class UnmixedHoldsTest(Asker):
    def test_tiles_that_take_turns(self):
        for lap in range(1, 14):
            for rest in range(lap):
                for number, other in enumerate("abc"):
                    # After number, number + 3, .. growings the floor of a has it.
                    never = all(growings % lap != rest for growings in range(number, 200, 3))
                    self.assertIs(self.told(unmixed_holds, TURNS, ("a", other, lap, rest)), never)

    def test_against_many_growings(self):
        for rule in [CHESS, STRIPE, LONELY, PARTED, WHEELS] + SEVERAL[-48::5]:
            tile = tiles_of(rule)[-1]
            sets = tiles_after(rule, tile, 900)
            for other in tiles_of(rule)[:5]:
                for lap in (1, 2, 3, 4, 6, 7, 12):
                    for rest in range(lap):
                        never = all(other not in tiles for tiles in sets[rest::lap])
                        self.assertIs(unmixed_holds(rule, (tile, other, lap, rest)), never)

    def test_what_happens_ahead_of_the_first_turn(self):
        # The floor of z has x after 1 growing alone, and y after 2 alone; then all is a.
        rule = (1, 2, (("a", ("aa",)), ("x", ("yy",)), ("y", ("aa",)), ("z", ("xx",))))
        for lap in range(1, 9):
            for rest in range(lap):
                self.assertIs(unmixed_holds(rule, ("z", "x", lap, rest)), 1 % lap != rest)
                self.assertIs(unmixed_holds(rule, ("z", "y", lap, rest)), 2 % lap != rest)
                self.assertIs(unmixed_holds(rule, ("z", "z", lap, rest)), 0 % lap != rest)
                self.no(unmixed_holds, rule, ("z", "a", lap, rest))
        self.no(unmixed_holds, rule, ("z", "a", 10 ** 99, 0))
        self.no(unmixed_holds, rule, ("z", "a", 10 ** 99, 2))
        self.yes(unmixed_holds, rule, ("z", "x", 10 ** 99, 2))
        self.no(unmixed_holds, rule, ("z", "x", 10 ** 99, 1))

    def test_laps_of_a_hundred_figures(self):
        # The floor of z has the tile a after 1, 3, 5 .. growings, the tile c after 1, 4, 7 .. growings.
        even = 2 * 10 ** 98
        odd = 10 ** 99 + 1
        self.yes(unmixed_holds, WHEELS, ("z", "a", even, 0))
        self.yes(unmixed_holds, WHEELS, ("z", "a", even, 10 ** 97))
        self.no(unmixed_holds, WHEELS, ("z", "a", even, 1))
        self.no(unmixed_holds, WHEELS, ("z", "a", even, even - 1))
        for rest in (0, 1, 2, 10 ** 98):
            self.no(unmixed_holds, WHEELS, ("z", "a", odd, rest))
        self.yes(unmixed_holds, WHEELS, ("z", "c", 3 * 10 ** 98, 0))
        self.no(unmixed_holds, WHEELS, ("z", "c", 3 * 10 ** 98, 10 ** 98))
        self.yes(unmixed_holds, WHEELS, ("a", "c", 10 ** 100 - 1, 10 ** 100 - 2))

    def test_lap_and_rest(self):
        self.yes(unmixed_holds, TURNS, ("a", "b", 3, 0))
        for thing in odd_numbers(0, 2):
            self.no(unmixed_holds, TURNS, ("a", "b", 3, thing))
        self.no(unmixed_holds, TURNS, ("a", "b", 3, 3))
        self.no(unmixed_holds, TURNS, ("a", "b", 3, -1))
        self.no(unmixed_holds, TURNS, ("a", "b", 0, 0))
        self.no(unmixed_holds, TURNS, ("a", "b", -3, 0))
        self.no(unmixed_holds, TURNS, ("a", "b", 3, False))
        self.no(unmixed_holds, LONELY, ("a", "c", True, 0))
        self.yes(unmixed_holds, LONELY, ("a", "c", 1, 0))
        for thing in odd_things():
            if not isinstance(thing, int) or isinstance(thing, bool) or thing < 1:
                self.no(unmixed_holds, LONELY, ("a", "c", thing, 0))
            else:
                self.yes(unmixed_holds, LONELY, ("a", "c", thing, 0))

    def test_whatever_is_handed_in(self):
        for thing in odd_things():
            self.no(unmixed_holds, LONELY, thing)
            self.no(unmixed_holds, LONELY, (thing, "c", 1, 0))
            self.no(unmixed_holds, LONELY, ("a", thing, 1, 0))
            self.no(unmixed_holds, LONELY, (thing, thing, thing, thing))
            self.no(unmixed_holds, LONELY, ("a", "c", 1, 0, thing))
        for thing in (["a", "c", 1, 0], ("a", "c", 1), ("a", "c"), (("a", "c", 1, 0),), ("a", "z", 1, 0),
                      ("z", "a", 1, 0), ("a", "c", "1", 0), ("a", "c", 1, "0"), ("ac", 1, 0), {"a": "c", 1: 0},
                      ("", "c", 1, 0), ("a", "", 1, 0), ("a", "bc", 1, 0), ("ab", "c", 1, 0)):
            self.no(unmixed_holds, LONELY, thing)


class CornerTest(Asker):
    def test_ordinary_corners(self):
        self.assertEqual([corner_tile(STRIPE, "a", 0, 1, growings) for growings in range(4)], ["a", "b", "a", "b"])
        self.assertEqual([corner_tile(CHESS, "b", 0, 0, growings) for growings in range(4)], ["b", "c", "c", "c"])
        self.assertEqual(self.told(corner_round, STRIPE, "a", 0, 1), (0, 2))
        self.assertEqual(self.told(corner_round, CHESS, "b", 0, 0), (1, 1))
        self.assertEqual(self.told(corner_round, TURNS, "c", 1, 0), (0, 3))

    def test_all_four_corners_against_laid_floors(self):
        for rule in SEVERAL:
            for growings in laid_sizes(rule, 260):
                for tile in tiles_of(rule)[:3]:
                    floor = laid_far(rule, tile, growings)
                    for bottom, right in CORNERS:
                        expected = floor[-1 if bottom else 0][-1 if right else 0]
                        self.assertEqual(self.told(corner_tile, rule, tile, bottom, right, growings), expected)

    def test_60_growings(self):
        for rule in SEVERAL:
            rows, columns = rule[0] ** 60, rule[1] ** 60
            for tile in tiles_of(rule)[:3]:
                for bottom, right in CORNERS:
                    place = (bottom * (rows - 1), right * (columns - 1))
                    self.assertEqual(corner_tile(rule, tile, bottom, right, 60), tile_far(rule, tile, 60, *place))

    def test_0_growings_and_10_to_the_40(self):
        great = 10 ** 40
        for rule in SEVERAL:
            for tile in tiles_of(rule):
                for bottom, right in CORNERS:
                    self.assertEqual(corner_tile(rule, tile, bottom, right, 0), tile)
                    start, lap = corner_round(rule, tile, bottom, right)
                    # As many whole laps less, the same tile lies there.
                    few = start + (great - start) % lap
                    expected = corner_tile(rule, tile, bottom, right, few)
                    self.assertEqual(self.told(corner_tile, rule, tile, bottom, right, great), expected)
        self.assertEqual(corner_tile(TURNS, "a", 0, 0, great), "b")
        self.assertEqual(corner_tile(TURNS, "a", 0, 0, great - 1), "a")
        self.assertEqual(corner_tile(SLOW, "a", 0, 1, great), ALPHABET[1 + (great - 1) % 25])

    def test_start_and_lap(self):
        for rule in SEVERAL:
            for tile in tiles_of(rule):
                for bottom, right in CORNERS:
                    path = [tile]
                    for growing in range(120):
                        block = dict(rule[2])[path[-1]]
                        path.append(block[-1 if bottom else 0][-1 if right else 0])
                    again = [number for number in range(60) if path[number] in path[number + 1:]]
                    start = again[0]
                    lap = path.index(path[start], start + 1) - start
                    self.assertEqual(self.told(corner_round, rule, tile, bottom, right), (start, lap))

    def test_late_starts_and_long_laps(self):
        self.assertEqual(self.told(corner_round, SLOW, "a", 0, 0), (0, 26))
        self.assertEqual(self.told(corner_round, SLOW, "a", 0, 1), (1, 25))
        self.assertEqual(self.told(corner_round, SLOW, "y", 1, 1), (0, 25))
        chain = (2, 2, tuple((tile, (after * 2,) * 2) for tile, after in zip(ALPHABET, ALPHABET[1:] + "z")))
        self.assertEqual(self.told(corner_round, chain, "a", 1, 0), (25, 1))
        self.assertEqual(corner_tile(chain, "a", 1, 0, 24), "y")
        self.assertEqual(corner_tile(chain, "a", 1, 0, 25), "z")
        self.assertEqual(corner_tile(chain, "a", 1, 0, 26), "z")

    def test_no_tile(self):
        for thing in odd_things() + ["d", "z", "ab", ("a",), ["a"]]:
            for bottom, right in CORNERS:
                self.no_tile(thing, corner_tile, CHESS, thing, bottom, right, 5)
                self.no_tile(thing, corner_round, CHESS, thing, bottom, right)


class StillTilesTest(Asker):
    def test_ordinary_rules(self):
        self.assertEqual(self.told(still_tiles, CHESS), ["a", "c"])
        self.assertEqual(self.told(still_tiles, STRIPE), ["a", "b", "c"])
        self.assertEqual(self.told(still_tiles, TURNS), [])
        self.assertEqual(self.told(still_tiles, PARTED), ["a", "b"])
        self.assertEqual(self.told(still_tiles, even_rule(4, 4, ALPHABET)), list(ALPHABET))

    def test_the_first_tile_alone_counts(self):
        self.assertEqual(self.told(still_tiles, (2, 2, (("a", ("ba", "aa")), ("b", ("ab", "bb"))))), [])
        for rule in SEVERAL:
            expected = [tile for tile, block in rule[2] if block[0].startswith(tile)]
            self.assertEqual(self.told(still_tiles, rule), expected)


class ConsequencesTest(Asker):
    def test_the_floor_of_a_still_tile_begins_with_that_of_fewer_growings(self):
        for rule in MANY_RULES + GREAT_RULES:
            for tile in still_tiles(rule)[:3]:
                for growings in (0, 1, 2, 3, 59):
                    high, wide = min(rule[0] ** growings, 64), min(rule[1] ** growings, 64)
                    fewer = cut_far(rule, tile, growings, 0, 0, high, wide)
                    self.assertEqual(cut_far(rule, tile, growings + 1, 0, 0, high, wide), fewer)

    def test_the_first_corner_of_a_still_tile(self):
        for rule in SEVERAL:
            for tile in tiles_of(rule):
                self.assertEqual(corner_round(rule, tile, 0, 0) == (0, 1), tile in still_tiles(rule))

    def test_one_shut_group_just_where_still_shares_tells_some(self):
        met = set()
        for rule in SEVERAL:
            one = len(shut_groups(rule)) == 1
            met.add(one)
            self.assertEqual(still_shares(rule) is not None, one)
        self.assertEqual(met, {True, False})

    def test_what_comes_after_is_counted(self):
        for rule in SEVERAL:
            tile = tiles_of(rule)[-1]
            for other, often in comes_after(rule, tile):
                if often is not None:
                    self.assertGreater(dict(tile_counts(rule, tile, often))[other], 0)
                    for fewer in range(often):
                        self.assertEqual(dict(tile_counts(rule, tile, fewer))[other], 0)

    def test_turned_or_mirrored_all_is_the_same_but_for_the_corners(self):
        for rule in (CHESS, STRIPE, TOWER, FLAT, LONELY, PARTED):
            for other in (turned_rule(rule), mirrored_rule(rule)):
                self.assertEqual(tile_groups(other), tile_groups(rule))
                self.assertEqual(mixing_time(other), mixing_time(rule))
            for bottom, right in CORNERS:
                expected = corner_round(rule, "a", bottom, right)
                self.assertEqual(corner_round(turned_rule(rule), "a", right, bottom), expected)
                self.assertEqual(corner_round(mirrored_rule(rule), "a", bottom, 1 - right), expected)


class SameAnswerTest(Asker):
    def test_whatever_was_asked_in_between(self):
        questions = [
            (comes_after, PARTED, "z"), (tile_groups, PARTED), (shut_groups, PARTED), (mixing_time, CHESS),
            (why_unmixed, TURNS), (unmixed_holds, TURNS, ("a", "b", 3, 0)), (corner_tile, FLAT, "b", 1, 1, 10 ** 40),
            (corner_round, FLAT, "b", 1, 0), (still_tiles, CHESS), (mixing_time, TURNS), (why_unmixed, CHESS),
        ]
        before = copy.deepcopy(questions)
        first = [asked(*handed) for asked, *handed in questions]
        again = [asked(*handed) for asked, *handed in reversed(questions)]
        self.assertEqual(again, first[::-1])
        self.assertEqual(questions, before)

    def test_lists_that_were_told_are_the_askers_own(self):
        for asked, handed in ((comes_after, (CHESS, "a")), (tile_groups, (PARTED,)), (shut_groups, (PARTED,)),
                              (still_tiles, (CHESS,))):
            told = asked(*handed)
            kept = list(told)
            told.clear()
            self.assertEqual(asked(*handed), kept)


if __name__ == "__main__":
    unittest.main()
