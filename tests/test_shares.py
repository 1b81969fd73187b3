"""3.3: still shares, and 0.2, 0.3 as far as they speak of them."""

import copy
import math
import unittest
from fractions import Fraction

from samples import (
    ALPHABET, CHESS, GREAT_RULES, LONELY, MANY_RULES, PARTED, SIZES, STRIPE, TURNS, Asker, even_rule, odd_things,
    tangled_rule, tiles_of,
)
from tilegrow.counts import table_of, tile_counts
from tilegrow.rules import mirrored_rule, turned_rule
from tilegrow.shares import shares_hold, still_shares

HALF = (1, 2)
NONE = (0, 1)
ALL = (1, 1)


def shut_by_hand(rule):
    """How many groups of tiles there are that come of each other, and of which nothing else comes."""
    block_of = {tile: set("".join(block)) for tile, block in rule[2]}
    reach = {tile: {tile} | block_of[tile] for tile in block_of}
    for round_ in block_of:
        for tile in block_of:
            for part in list(reach[tile]):
                reach[tile] |= reach[part]
    return len({frozenset(reach[tile]) for tile in reach if all(tile in reach[part] for part in reach[tile])})


def still_by_hand(rule, shares):
    values = [Fraction(top, bottom) for top, bottom in shares]
    area = rule[0] * rule[1]
    for number, column in enumerate(zip(*table_of(rule))):
        if sum(value * many for value, many in zip(values, column)) != area * values[number]:
            return False
    return sum(values) == 1


class StillSharesTest(Asker):
    def test_ordinary_rules(self):
        self.assertEqual(self.told(still_shares, even_rule(2, 2)), (ALL,))
        self.assertEqual(self.told(still_shares, (1, 2, (("a", ("ab",)), ("b", ("ba",))))), (HALF, HALF))
        self.assertEqual(self.told(still_shares, (1, 2, (("a", ("ab",)), ("b", ("aa",))))), ((2, 3), (1, 3)))
        self.assertEqual(self.told(still_shares, CHESS), ((1, 3), (2, 5), (4, 15)))
        self.assertEqual(self.told(still_shares, TURNS), ((1, 3), (1, 3), (1, 3)))

    def test_nought_is_0_by_1(self):
        self.assertEqual(self.told(still_shares, LONELY), (NONE, ALL, NONE))
        self.assertEqual(self.told(still_shares, (2, 2, (("a", ("bb", "bb")), ("b", ("bb", "bb"))))), (NONE, ALL))
        self.assertEqual(self.told(still_shares, (2, 2, (("a", ("aa", "aa")), ("b", ("bb", "ba"))))), (ALL, NONE))
        rule = (1, 4, (("a", ("abcd",)), ("b", ("bbcc",)), ("c", ("bccc",)), ("d", ("dddb",))))
        self.assertEqual(self.told(still_shares, rule), (NONE, (1, 3), (2, 3), NONE))

    def test_none_where_there_are_several(self):
        self.assertIsNone(self.told(still_shares, STRIPE))
        self.assertIsNone(self.told(still_shares, PARTED))
        for many in (2, 3, 26):
            self.assertIsNone(self.told(still_shares, even_rule(2, 2, ALPHABET[:many])))

    def test_they_are_told_just_where_there_is_one_shut_group(self):
        rules = MANY_RULES + GREAT_RULES + [even_rule(high, wide, "ab") for high, wide in SIZES]
        rules += [tangled_rule(1, 2, ALPHABET[:many], seed) for many in (3, 5, 8) for seed in range(20)]
        met = set()
        for rule in rules:
            shares = self.told(still_shares, rule)
            met.add(shares is None)
            self.assertEqual(shares is None, shut_by_hand(rule) > 1, rule)
            if shares is not None:
                self.yes(shares_hold, rule, shares)
                self.assertTrue(still_by_hand(rule, shares))
                self.assertEqual(len(shares), len(rule[2]))
                for top, bottom in shares:
                    self.assertTrue(0 <= top <= bottom and math.gcd(top, bottom) == 1)
        self.assertEqual(met, {True, False})

    def test_26_tiles(self):
        shares = self.told(still_shares, GREAT_RULES[1])
        self.assertEqual(len(shares), 26)
        self.yes(shares_hold, GREAT_RULES[1], shares)
        counts = tile_counts(GREAT_RULES[1], "a", 1000)
        for (top, bottom), (tile, many) in zip(shares, counts):
            # Grown so often, the floor's own shares are near to the still ones.
            self.assertLess(abs(Fraction(many, 16 ** 1000) - Fraction(top, bottom)), Fraction(1, 10 ** 50))
        self.assertTrue(any(bottom > 10 ** 15 for top, bottom in shares))
        chain = (4, 4, tuple(
            (tile, (tile * 4,) * 3 + (tile * 3 + after,)) for tile, after in zip(ALPHABET, ALPHABET[1:] + "a")
        ))
        self.assertEqual(self.told(still_shares, chain), ((1, 26),) * 26)

    def test_turned_or_mirrored_they_are_the_same(self):
        for rule in MANY_RULES:
            self.assertEqual(still_shares(turned_rule(rule)), still_shares(rule))
            self.assertEqual(still_shares(mirrored_rule(rule)), still_shares(rule))


class SharesHoldTest(Asker):
    def test_where_there_are_several(self):
        self.yes(shares_hold, STRIPE, (HALF, HALF, NONE))
        self.yes(shares_hold, STRIPE, (NONE, NONE, ALL))
        self.yes(shares_hold, STRIPE, ((1, 4), (1, 4), HALF))
        self.yes(shares_hold, STRIPE, ((1, 3), (1, 3), (1, 3)))
        self.no(shares_hold, STRIPE, (HALF, NONE, HALF))
        self.no(shares_hold, STRIPE, (ALL, NONE, NONE))
        identity = even_rule(3, 2, "abc")
        self.yes(shares_hold, identity, ((1, 7), (2, 7), (4, 7)))
        self.yes(shares_hold, identity, ((1, 6), (1, 3), HALF))
        self.yes(shares_hold, identity, (ALL, NONE, NONE))

    def test_shares_that_are_not_still(self):
        rule = (1, 2, (("a", ("ab",)), ("b", ("aa",))))
        self.yes(shares_hold, rule, ((2, 3), (1, 3)))
        self.no(shares_hold, rule, ((1, 3), (2, 3)))
        self.no(shares_hold, rule, (HALF, HALF))
        self.no(shares_hold, rule, (ALL, NONE))
        self.no(shares_hold, rule, (NONE, ALL))
        self.no(shares_hold, LONELY, (ALL, NONE, NONE))
        self.no(shares_hold, CHESS, ((1, 3), (4, 15), (2, 5)))

    def test_shares_that_do_not_come_together_to_1(self):
        rule = (1, 2, (("a", ("ab",)), ("b", ("aa",))))
        self.no(shares_hold, rule, ((2, 1), (1, 1)))
        self.no(shares_hold, rule, ((1, 3), (1, 6)))
        self.no(shares_hold, rule, (NONE, NONE))
        self.no(shares_hold, even_rule(2, 2), (HALF,))
        self.no(shares_hold, even_rule(2, 2), ((2, 1),))
        self.no(shares_hold, even_rule(2, 2), (NONE,))
        self.no(shares_hold, even_rule(2, 2, "ab"), (HALF, (1, 3)))
        self.yes(shares_hold, even_rule(2, 2), (ALL,))

    def test_fractions_not_in_lowest_terms(self):
        rule = (1, 2, (("a", ("ab",)), ("b", ("aa",))))
        self.no(shares_hold, rule, ((4, 6), (1, 3)))
        self.no(shares_hold, rule, ((2, 3), (2, 6)))
        self.no(shares_hold, rule, ((-2, -3), (1, 3)))
        self.no(shares_hold, rule, ((-2, -3), (-1, -3)))
        self.no(shares_hold, even_rule(2, 2), ((2, 2),))
        self.no(shares_hold, LONELY, ((0, 2), ALL, NONE))
        self.no(shares_hold, LONELY, (NONE, ALL, (0, 3)))
        self.no(shares_hold, LONELY, ((0, 0), ALL, NONE))
        self.no(shares_hold, LONELY, ((0, -1), ALL, NONE))
        self.no(shares_hold, LONELY, (NONE, (3, 3), NONE))
        self.no(shares_hold, LONELY, (NONE, (-1, -1), NONE))

    def test_shares_below_nought(self):
        self.no(shares_hold, even_rule(2, 2, "ab"), ((-1, 1), (2, 1)))
        self.no(shares_hold, even_rule(2, 2, "ab"), ((3, 2), (-1, 2)))
        self.no(shares_hold, even_rule(2, 2, "ab"), ((3, 2), (1, -2)))

    def test_other_forms(self):
        rule = (1, 2, (("a", ("ab",)), ("b", ("ba",))))
        self.yes(shares_hold, rule, (HALF, HALF))
        for thing in ([HALF, HALF], (HALF,), (HALF, HALF, NONE), (list(HALF), HALF), (HALF, [1, 2]), (HALF, (1, 2, 1)),
                      (HALF, (1,)), (), (HALF, "12"), (HALF, {1: 2, 2: 1}), {HALF: HALF}, (HALF, ("1", 2)),
                      (HALF, (1, "2")), (HALF, None), ((HALF, HALF),), (HALF, 1)):
            self.no(shares_hold, rule, thing)

    def test_truths_are_no_whole_numbers(self):
        self.no(shares_hold, even_rule(2, 2), ((True, 1),))
        self.no(shares_hold, even_rule(2, 2), ((1, True),))
        self.no(shares_hold, LONELY, ((False, 1), ALL, NONE))
        self.no(shares_hold, LONELY, (NONE, ALL, (0, True)))

    def test_whatever_is_handed_in(self):
        rule = (1, 2, (("a", ("ab",)), ("b", ("ba",))))
        one = even_rule(3, 3)
        for thing in odd_things():
            self.no(shares_hold, rule, thing)
            self.no(shares_hold, one, thing)
            self.no(shares_hold, one, (thing,))
            self.assertIs(shares_hold(rule, (thing, thing)), thing == (1, 2))
            self.no(shares_hold, rule, (HALF, (thing, 7)))
            self.no(shares_hold, rule, (HALF, (1, thing)))
            self.no(shares_hold, rule, ((thing, 2), HALF))
            self.assertIs(shares_hold(rule, (HALF, thing)), thing == (1, 2))
            self.assertIs(shares_hold(rule, (thing, HALF)), thing == (1, 2))

    def test_numbers_of_a_hundred_figures(self):
        great = 10 ** 100 - 1
        rule = even_rule(2, 2, "ab")
        self.yes(shares_hold, rule, ((1, great), (great - 1, great)))
        self.no(shares_hold, rule, ((1, great), (great - 2, great)))
        self.no(shares_hold, rule, ((great, 1), (great, 1)))
        full = even_rule(4, 4, ALPHABET)
        bottoms = [10 ** 99 + 2 * number + 1 for number in range(26)]
        self.no(shares_hold, full, tuple((1, bottom) for bottom in bottoms))
        self.no(shares_hold, GREAT_RULES[1], tuple((bottom - 1, bottom) for bottom in bottoms))

    def test_what_was_told_with_one_share_changed(self):
        for rule in MANY_RULES + GREAT_RULES:
            shares = still_shares(rule)
            if shares is None or len(shares) == 1:
                continue
            for number, (top, bottom) in enumerate(shares):
                for share in ((top + bottom, bottom), (2 * top, 2 * bottom), (top, bottom + 1), (-1, 1)):
                    self.no(shares_hold, rule, shares[:number] + (share,) + shares[number + 1:])
            self.no(shares_hold, rule, shares[:-1])
            self.no(shares_hold, rule, shares + (NONE,))
            self.no(shares_hold, rule, list(shares))

    def test_the_shares_of_another_rule(self):
        rules = [rule for rule in MANY_RULES if len(rule[2]) == 3 and still_shares(rule) is not None]
        for rule in rules:
            for other in rules:
                shares = still_shares(other)
                self.assertIs(shares_hold(rule, shares), still_by_hand(rule, shares))
                self.assertIs(shares_hold(rule, shares), shares == still_shares(rule))


class SameAnswerTest(Asker):
    def test_whatever_was_asked_in_between(self):
        rules = [rule for rule in MANY_RULES if len(tiles_of(rule)) > 1]
        before = copy.deepcopy(rules)
        first = [still_shares(rule) for rule in rules]
        self.assertEqual([still_shares(rule) for rule in reversed(rules)], first[::-1])
        self.assertEqual(rules, before)


if __name__ == "__main__":
    unittest.main()
