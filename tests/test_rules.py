"""1.2 and 1.3: what a rule is and how one is made, and 0.2, 0.3 as far as they speak of it."""

import copy
import itertools
import unittest

from samples import ALPHABET, RULES, SIGNS, SIZES, even_floor, even_rule, mixed_rule, odd_things
from tilegrow.errors import FloorError, NoRule
from tilegrow.rules import rule_good, rule_of


class RuleGoodTest(unittest.TestCase):
    def good(self, thing):
        self.assertIs(rule_good(thing), True, thing)

    def bad(self, thing):
        self.assertIs(rule_good(thing), False, thing)

    def test_ordinary_rules(self):
        for rule in RULES:
            self.good(rule)
        self.good((1, 2, (("a", ("ab",)), ("b", ("aa",)))))
        self.good((2, 1, (("c", ("x", "c")), ("x", ("x", "x")))))
        self.good((2, 2, (("q", ("qq", "qq")),)))

    def test_all_sizes(self):
        for high, wide in SIZES:
            self.good(even_rule(high, wide))
            self.good(even_rule(high, wide, "bdz"))

    def test_sizes_that_are_none(self):
        self.bad(even_rule(1, 1))
        self.bad(even_rule(1, 1, "abc"))
        for other in (1, 2, 3, 4):
            for beyond in (0, 5, 6, 64):
                self.bad(even_rule(beyond, other))
                self.bad(even_rule(other, beyond))
            self.bad((-1, other, (("a", ("a" * other,)),)))
            self.bad((other, -1, (("a", ("a",) * other),)))
        self.bad(even_rule(5, 5))
        self.bad(even_rule(0, 0))

    def test_truths_are_no_sizes(self):
        self.bad((True, 2, (("a", ("aa",)),)))
        self.bad((2, True, (("a", ("a", "a")),)))
        self.bad((True, True, (("a", ("a",)),)))
        self.bad((False, 2, (("a", ()),)))
        self.bad((2, False, (("a", ("", "")),)))

    def test_one_to_26_tiles(self):
        self.good(mixed_rule(1, 3, ALPHABET, 1))
        self.good(mixed_rule(4, 4, ALPHABET, 3))
        self.good(mixed_rule(2, 2, ALPHABET[:25], 1))
        for tile in ALPHABET:
            self.good(even_rule(3, 2, tile))
        self.bad((1, 2, ()))
        self.bad(even_rule(1, 2, ALPHABET + "{"))
        self.bad(even_rule(1, 2, ALPHABET + "a"))
        self.bad(even_rule(1, 2, ALPHABET + "z"))

    def test_tiles_that_do_not_rise(self):
        self.bad(even_rule(1, 2, "ba"))
        self.bad(even_rule(1, 2, "acb"))
        self.bad(even_rule(1, 2, "bac"))
        self.bad(even_rule(1, 2, ALPHABET[::-1]))

    def test_tiles_that_stand_twice(self):
        self.bad(even_rule(1, 2, "aa"))
        self.bad(even_rule(1, 2, "abb"))
        self.bad(even_rule(1, 2, "aba"))
        self.bad((1, 2, (("a", ("ab",)), ("a", ("bb",)), ("b", ("ab",)))))

    def test_tiles_that_are_none(self):
        for sign in SIGNS:
            rule = (1, 2, ((sign, ("zz",)), ("z", ("zz",))))
            self.assertIs(rule_good(rule), sign in ALPHABET and sign != "z", rule)
            alone = (2, 1, ((sign, (sign, sign)),))
            self.assertIs(rule_good(alone), sign in ALPHABET, alone)
        for tile in ("", "ab", "aa", ("a",), ["a"], {"a": "a"}):
            self.bad((1, 2, ((tile, ("zz",)), ("z", ("zz",)))))
            self.bad((1, 2, ((tile, ("aa",)),)))

    def test_blocks_of_another_size(self):
        for block in (("aa",), ("aa", "aa", "aa"), ("a", "a"), ("aaa", "aaa"), ("a",), ("aaaa",),
                      ("aa", "a"), ("a", "aa"), ("aa", "aaa"), (), ("",), ("", "")):
            self.bad((2, 2, (("a", block),)))
            self.bad((2, 2, (("a", block), ("b", ("ab", "ab")))))
            self.bad((2, 2, (("a", ("aa", "aa")), ("b", block))))
        self.bad((1, 2, (("a", ("a", "a")),)))
        self.bad((2, 1, (("a", ("aa",)),)))
        self.bad((3, 2, (("a", ("aaa", "aaa")),)))
        self.bad((2, 3, (("a", ("aa", "aa", "aa")),)))

    def test_blocks_with_signs_that_are_no_tiles(self):
        for sign in SIGNS:
            rule = (1, 2, (("a", ("a" + sign,)), ("b", (sign + "b",))))
            self.assertIs(rule_good(rule), sign in "ab", rule)

    def test_a_tile_in_a_block_without_a_block(self):
        whole = (("a", ("ab", "ba")), ("b", ("aa", "bb")), ("d", ("dd", "da")))
        self.good((2, 2, whole))
        for number, (tile, block) in enumerate(whole):
            for row in range(2):
                for column in range(2):
                    for strange in "cez":
                        rows = [list(tiles) for tiles in block]
                        rows[row][column] = strange
                        broken = (tile, tuple("".join(tiles) for tiles in rows))
                        self.bad((2, 2, whole[:number] + (broken,) + whole[number + 1:]))
        self.bad((2, 2, whole[1:]))
        self.bad((2, 2, whole[:1] + whole[2:]))

    def test_lists_in_the_place_of_tuples(self):
        self.good((1, 2, (("a", ("aa",)),)))
        self.bad([1, 2, (("a", ("aa",)),)])
        self.bad((1, 2, [("a", ("aa",))]))
        self.bad((1, 2, (["a", ("aa",)],)))
        self.bad((1, 2, (("a", ["aa"]),)))
        self.bad((1, 2, (("a", (["a", "a"],)),)))
        self.bad((1, 2, ((["a"], ("aa",)),)))
        self.bad((1, 2, (("a", ("ab",)), ["b", ("aa",)])))
        self.bad((1, 2, (("a", ("ab",)), ("b", ["aa"]))))

    def test_texts_and_dicts_in_the_place_of_tuples(self):
        self.bad((2, 1, (("a", "aa"),)))
        self.bad((1, 2, (("a", "aa"),)))
        self.bad((2, 2, (("a", "aa/aa"),)))
        self.bad((2, 1, ("aa",)))
        self.bad((2, 1, "aa"))
        self.bad((1, 2, {"a": ("aa",)}))
        self.bad((1, 2, ({"a": ("aa",)},)))
        self.bad((1, 2, (("a", {"aa": "aa"}),)))
        self.bad({0: 1, 1: 2, 2: (("a", ("aa",)),)})
        self.bad("rule 1 2\na aa")

    def test_tuples_of_another_length(self):
        blocks = (("a", ("aa",)),)
        self.bad(())
        self.bad((1,))
        self.bad((1, 2))
        self.bad((1, blocks))
        self.bad((1, 2, blocks, blocks))
        self.bad((1, 2, blocks, None))
        self.bad((1, 2, (("a",),)))
        self.bad((1, 2, ((),)))
        self.bad((1, 2, (("a", ("aa",), ("aa",)),)))
        self.bad((1, 2, (("a", ("aa",), None),)))
        self.bad((1, 2, ("a", ("aa",))))

    def test_whatever_at_each_place(self):
        pair = ("a", ("aa",))
        last = ("b", ("ab",))
        for thing in odd_things():
            self.bad(thing)
            self.bad((thing, 2, (pair,)))
            self.bad((1, thing, (pair,)))
            self.bad((thing, thing, (pair,)))
            self.bad((1, 2, thing))
            self.bad((1, 2, (thing,)))
            self.bad((1, 2, (thing, last)))
            self.bad((1, 2, (pair, thing)))
            self.bad((1, 2, (pair, last, thing)))
            self.bad((1, 2, ((thing, ("aa",)),)))
            self.bad((1, 2, ((thing, ("bb",)), last)))
            self.bad((1, 2, (pair, (thing, ("aa",)))))
            self.bad((1, 2, (("a", thing),)))
            self.bad((1, 2, (pair, ("b", thing))))
            self.bad((2, 2, (("a", (thing, "aa")),)))
            self.bad((2, 3, (("a", ("aaa", thing)),)))

    def test_sizes_of_other_kinds(self):
        for size in ("1", "2", "a", (2,), [2], {2: 2}, None, [], 10 ** 99, -2):
            self.bad((size, 2, (("a", ("aa",)),)))
            self.bad((2, size, (("a", ("aa", "aa")),)))

    def test_nothing_is_changed_and_the_answer_stays(self):
        things = odd_things() + [[1, 2, [["a", ["aa"]]]], (1, 2, [("a", ["aa"])]), (1, 2, {"a": ["aa"]})] + RULES
        before = copy.deepcopy(things)
        first = [rule_good(thing) for thing in things]
        self.assertEqual(first, [rule_good(thing) for thing in things])
        self.assertEqual(things, before)

    def test_a_list_changed_behind_the_call_has_its_own_answer(self):
        block = ["aa"]
        thing = (1, 2, (("a", block),))
        self.bad(thing)
        self.good((1, 2, (("a", ("aa",)),)))
        self.bad(thing)
        block.append("aa")
        self.bad(thing)
        self.good((1, 2, (("a", ("aa",)),)))


class RuleOfTest(unittest.TestCase):
    def refused(self, number, high, wide, things):
        before = copy.deepcopy(things)
        with self.assertRaises(NoRule) as met:
            rule_of(high, wide, things)
        self.assertIs(met.exception.number.__class__, int)
        self.assertEqual(met.exception.number, number, (high, wide, things))
        self.assertIsInstance(met.exception, FloorError)
        self.assertEqual(things, before)

    def test_things_in_any_order(self):
        things = [("a", ("ab", "ba")), ("b", ("cc", "ab")), ("c", ("ca", "bd")), ("d", ("aa", "aa"))]
        expected = (2, 2, tuple(things))
        for order in itertools.permutations(things):
            self.assertEqual(rule_of(2, 2, list(order)), expected)

    def test_all_sizes_and_rules(self):
        for rule in RULES:
            high, wide, blocks = rule
            self.assertEqual(rule_of(high, wide, list(blocks)), rule)
            made = rule_of(high, wide, list(reversed(blocks)))
            self.assertEqual(made, rule)
            self.assertIs(rule_good(made), True)

    def test_one_thing_and_26(self):
        self.assertEqual(rule_of(1, 2, [("k", ("kk",))]), (1, 2, (("k", ("kk",)),)))
        rule = mixed_rule(3, 4, ALPHABET, 2)
        self.assertEqual(rule_of(3, 4, list(rule[2])[::-1]), rule)
        self.assertEqual(rule_of(3, 4, list(rule[2])[13:] + list(rule[2])[:13]), rule)

    def test_sizes_that_are_none(self):
        for size in odd_things() + ["1", "2", (1,), [2], {1: 2}]:
            for other in (1, 2, 4):
                self.refused(-1, size, other, [("a", ("aa",))])
                self.refused(-1, other, size, [("a", ("aa",))])
            self.refused(-1, size, size, [("a", ("aa",))])
        for size in (0, 5, -1, 6, 64):
            for other in (1, 2, 3, 4):
                self.refused(-1, size, other, [("a", even_floor(max(size, 0), other))])
                self.refused(-1, other, size, [("a", even_floor(other, max(size, 0)))])

    def test_truths_are_no_sizes(self):
        self.refused(-1, True, 2, [("a", ("aa",))])
        self.refused(-1, 2, True, [("a", ("a", "a"))])
        self.refused(-1, True, True, [("a", ("a",))])
        self.refused(-1, False, 2, [("a", ())])

    def test_both_sizes_one(self):
        self.refused(-1, 1, 1, [("a", ("a",))])
        self.refused(-1, 1, 1, [])

    def test_sizes_go_ahead_of_all_else(self):
        for things in ([], [None], [("a", ("aa",)), ("a", ("aa",))], [("a", ("ab",))], [("a", ("aa",)), 7]):
            self.refused(-1, 0, 2, things)
            self.refused(-1, 1, 1, things)
            self.refused(-1, 2, None, things)

    def test_the_empty_list(self):
        for high, wide in SIZES:
            self.refused(0, high, wide, [])

    def test_whatever_as_a_thing(self):
        goods = [("d", ("ab",)), ("b", ("bd",)), ("a", ("da",))]
        self.assertEqual(rule_of(1, 2, goods), (1, 2, (goods[2], goods[1], goods[0])))
        for thing in odd_things():
            self.refused(0, 1, 2, [thing])
            for place in range(4):
                self.refused(place, 1, 2, goods[:place] + [thing] + goods[place:])

    def test_whatever_as_a_tile_or_a_block(self):
        goods = [("d", ("ab",)), ("b", ("bd",)), ("a", ("da",))]
        for thing in odd_things():
            for place in range(4):
                self.refused(place, 1, 2, goods[:place] + [(thing, ("ab",))] + goods[place:])
                self.refused(place, 1, 2, goods[:place] + [("c", thing)] + goods[place:])
                if thing != "ab":
                    self.refused(place, 1, 2, goods[:place] + [("c", (thing,))] + goods[place:])

    def test_things_of_another_form(self):
        good = ("b", ("bb",))
        for thing in (["a", ("bb",)], ("a", ["bb"]), ("a", "bb"), ("a", ("bb",), None), ("a",), ("bb",),
                      "ab", {"a": ("bb",)}, (("bb",), "a"), ("", ("bb",)), ("aa", ("bb",)), ("A", ("bb",)),
                      ("{", ("bb",)), ("`", ("bb",)), ("a", (("b", "b"),)), ("a", ("bB",)), ("a", ("b ",))):
            self.refused(0, 1, 2, [thing, good])
            self.refused(1, 1, 2, [good, thing])
        self.refused(0, 2, 1, [("a", "aa")])

    def test_blocks_of_another_size(self):
        good = ("b", ("bbb", "bbb"))
        for block in (("bbb",), ("bb", "bb"), ("bbb",) * 3, ("bbbb",) * 2, ("bb",) * 3, ("bbb", "bb"),
                      ("bb", "bbb"), (), ("", "")):
            self.refused(0, 2, 3, [("a", block), good])
            self.refused(1, 2, 3, [good, ("a", block)])

    def test_a_tile_that_one_ahead_has(self):
        a, b, c = ("a", ("ab",)), ("b", ("bc",)), ("c", ("ca",))
        self.refused(1, 1, 2, [a, a])
        self.refused(1, 1, 2, [a, ("a", ("aa",))])
        self.refused(2, 1, 2, [a, b, a])
        self.refused(2, 1, 2, [a, b, b])
        self.refused(3, 1, 2, [c, b, a, c])
        self.refused(3, 1, 2, [c, a, b, ("c", ("bb",))])
        self.refused(1, 1, 2, [b, b, a, a, c])
        full = list(mixed_rule(2, 2, ALPHABET, 1)[2])
        self.refused(26, 2, 2, full + [full[0]])
        self.refused(26, 2, 2, full + [full[25]])

    def test_the_first_by_its_form_or_its_tile(self):
        a, b = ("a", ("ab",)), ("b", ("ba",))
        self.refused(1, 1, 2, [a, a, None])
        self.refused(1, 1, 2, [a, None, a])
        self.refused(1, 1, 2, [a, ("b", ("bb", "bb")), a, b])
        self.refused(2, 1, 2, [b, a, ("b", ("ab",)), ("a", "ab")])
        self.refused(0, 1, 2, [("a", "ab"), ("a", ("ab",)), ("a", ("ab",))])

    def test_a_tile_without_a_block(self):
        self.refused(0, 1, 2, [("a", ("ab",))])
        self.refused(0, 1, 2, [("a", ("ba",))])
        self.refused(0, 2, 1, [("z", ("z", "y"))])
        self.refused(1, 1, 2, [("a", ("aa",)), ("b", ("bc",))])
        self.refused(2, 2, 2, [("a", ("ab", "bc")), ("b", ("aa", "aa")), ("c", ("aa", "ad"))])
        self.refused(1, 2, 2, [("a", ("ab", "bc")), ("b", ("aa", "ea")), ("c", ("aa", "ad"))])

    def test_the_first_without_a_block_in_the_lists_order(self):
        self.refused(1, 1, 2, [("b", ("bb",)), ("a", ("ax",))])
        self.refused(0, 1, 2, [("b", ("bx",)), ("a", ("aa",))])
        self.refused(0, 1, 2, [("c", ("cz",)), ("a", ("ax",)), ("b", ("aa",))])
        self.refused(2, 1, 2, [("c", ("cc",)), ("b", ("bb",)), ("a", ("ax",))])

    def test_a_block_may_stand_ahead_of_its_tile(self):
        self.assertEqual(rule_of(1, 2, [("a", ("bc",)), ("c", ("ab",)), ("b", ("cc",))]),
                         (1, 2, (("a", ("bc",)), ("b", ("cc",)), ("c", ("ab",)))))

    def test_form_and_tile_go_ahead_of_the_lacking_block(self):
        lacking = ("a", ("ax",))
        self.refused(1, 1, 2, [lacking, lacking])
        self.refused(1, 1, 2, [lacking, None])
        self.refused(2, 1, 2, [lacking, ("b", ("yy",)), ("c", ("cc", "cc"))])
        self.refused(3, 1, 2, [lacking, ("b", ("yy",)), ("c", ("cc",)), ("b", ("bb",))])

    def test_the_list_is_not_changed(self):
        things = [("c", ("ab",)), ("a", ("cc",)), ("b", ("ba",))]
        before = list(things)
        rule_of(1, 2, things)
        self.assertEqual(things, before)

    def test_what_is_done_to_the_list_changes_nothing(self):
        things = [("b", ("ab",)), ("a", ("bb",))]
        rule = rule_of(1, 2, things)
        things[0] = ("b", ("bb",))
        things.append(None)
        self.assertEqual(rule, (1, 2, (("a", ("bb",)), ("b", ("ab",)))))
        self.refused(2, 1, 2, things)
        things.clear()
        self.assertEqual(rule, (1, 2, (("a", ("bb",)), ("b", ("ab",)))))
        self.refused(0, 1, 2, things)

    def test_the_same_list_grown_between_two_calls(self):
        things = [("a", ("ab",))]
        self.refused(0, 1, 2, things)
        things.append(("b", ("bb",)))
        rule = rule_of(1, 2, things)
        self.assertEqual(rule, (1, 2, (("a", ("ab",)), ("b", ("bb",)))))
        things.append(("c", ("ac",)))
        self.assertEqual(rule_of(1, 2, things), (1, 2, rule[2] + (("c", ("ac",)),)))
        self.assertEqual(rule, (1, 2, (("a", ("ab",)), ("b", ("bb",)))))

    def test_the_same_question_has_the_same_answer(self):
        things = [("b", ("ab",)), ("a", ("bb",))]
        rule = rule_of(1, 2, list(things))
        self.refused(0, 1, 3, list(things))
        self.refused(2, 1, 2, things + [None])
        self.assertEqual(rule_of(1, 2, list(things)), rule)


if __name__ == "__main__":
    unittest.main()
