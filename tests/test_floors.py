"""1.1 floors, 1.5 turned and mirrored ones, and 0.2, 0.3 as far as they speak of them."""

import copy
import unittest

from samples import ALPHABET, FLOORS, SIGNS, even_floor, odd_things
from tilegrow.floors import floor_good, mirrored_floor, turned_floor


class FloorGoodTest(unittest.TestCase):
    def good(self, thing):
        self.assertIs(floor_good(thing), True, thing)

    def bad(self, thing):
        self.assertIs(floor_good(thing), False, thing)

    def test_ordinary_floors(self):
        for floor in FLOORS:
            self.good(floor)
        self.good((ALPHABET,))
        self.good(tuple(ALPHABET))
        self.good((ALPHABET, ALPHABET[::-1]))

    def test_one_to_64_rows_and_columns(self):
        for rows in (1, 2, 3, 32, 63, 64):
            for columns in (1, 2, 3, 32, 63, 64):
                self.good(even_floor(rows, columns, "z"))

    def test_none_and_65_rows_or_columns(self):
        self.bad(())
        self.bad(("",))
        self.bad(("", ""))
        self.bad(("",) * 64)
        for length in (1, 2, 64):
            for beyond in (65, 66, 128, 1000):
                self.bad(even_floor(beyond, length))
                self.bad(even_floor(length, beyond))
        self.bad(even_floor(65, 65))

    def test_rows_of_unlike_length(self):
        self.bad(("ab", "a"))
        self.bad(("a", "ab"))
        self.bad(("ab", "ab", "abc"))
        self.bad(("ab", "abc", "ab"))
        self.bad(("abc", "ab", "ab"))
        self.bad(("ab", ""))
        self.bad(("", "ab"))
        self.bad(("a" * 64,) * 63 + ("a" * 63,))
        self.bad(("a" * 63,) * 63 + ("a" * 64,))

    def test_each_sign_is_held_alone(self):
        for sign in SIGNS:
            expected = sign in ALPHABET
            for floor in ((sign,), (sign + "b",), ("b" + sign,), ("b", sign), (sign, "b"),
                          ("bbb", "b" + sign + "b", "bbb"), ("bbb", "bbb", "bb" + sign)):
                self.assertIs(floor_good(floor), expected, floor)

    def test_signs_beside_the_small_letters(self):
        for sign in "`{AZ@[09 /~":
            self.bad(("a" * 63 + sign,) * 64)
            self.bad(("a" * 64,) * 63 + ("a" * 63 + sign,))
            self.bad((sign + "a" * 63,) + ("a" * 64,) * 63)

    def test_other_wholes_than_tuples(self):
        self.bad(["ab", "ba"])
        self.bad(["a"])
        self.bad("a")
        self.bad("ab")
        self.bad("ab/ba")
        self.bad({"ab": "ba"})
        self.bad({0: "ab", 1: "ba"})
        self.bad([("ab", "ba")])
        self.bad((("ab", "ba"),))

    def test_whatever_as_the_whole(self):
        for thing in odd_things():
            self.bad(thing)

    def test_whatever_in_a_rows_place(self):
        for thing in odd_things():
            if thing in ("ab", "abab") and isinstance(thing, str):
                continue
            self.bad((thing,))
            self.bad((thing, "ab"))
            self.bad(("ab", thing))
            self.bad(("ab", "ba", thing, "aa"))
            self.bad((thing, thing))

    def test_rows_that_are_lists_tuples_or_dicts_of_tiles(self):
        for row in (["a", "b"], ("a", "b"), {"a": 1, "b": 2}, ["ab"], ("ab",), {"ab": "ab"}):
            self.bad((row,))
            self.bad((row, row))
            self.bad(("ab", row))
            self.bad((row, "ab"))

    def test_nothing_is_changed_and_the_answer_stays(self):
        things = odd_things() + [["ab", ["ab"], {"a": ["b"]}], (["ab"], {"a": ["b"]}), ("ab", ["a", "b"])]
        before = copy.deepcopy(things)
        first = [floor_good(thing) for thing in things]
        self.assertEqual(first, [floor_good(thing) for thing in things])
        self.assertEqual(things, before)

    def test_a_list_changed_behind_the_call_has_its_own_answer(self):
        row = ["a"]
        thing = ("a", row)
        self.bad(thing)
        row.append("b")
        self.bad(thing)
        self.good(("a", "b"))
        self.bad(thing)
        self.good(("a", "b"))


class TurnedFloorTest(unittest.TestCase):
    def test_rows_are_the_columns(self):
        self.assertEqual(turned_floor(("abc", "def")), ("ad", "be", "cf"))
        self.assertEqual(turned_floor(("ad", "be", "cf")), ("abc", "def"))
        self.assertEqual(turned_floor(("ab", "cd")), ("ac", "bd"))
        self.assertEqual(turned_floor(("abc", "def", "ghi")), ("adg", "beh", "cfi"))

    def test_edges(self):
        self.assertEqual(turned_floor(("q",)), ("q",))
        self.assertEqual(turned_floor(("abcd",)), ("a", "b", "c", "d"))
        self.assertEqual(turned_floor(("a", "b", "c", "d")), ("abcd",))
        long = (ALPHABET * 2 + ALPHABET[:12],)
        self.assertEqual(turned_floor(long), tuple(long[0]))
        self.assertEqual(turned_floor(tuple(long[0])), long)

    def test_place_by_place(self):
        great = tuple("".join(ALPHABET[(3 * row + 5 * column) % 26] for column in range(64)) for row in range(64))
        for floor in FLOORS + [great]:
            turned = turned_floor(floor)
            self.assertIs(floor_good(turned), True)
            self.assertEqual((len(turned), len(turned[0])), (len(floor[0]), len(floor)))
            for row, tiles in enumerate(floor):
                for column, tile in enumerate(tiles):
                    self.assertEqual(turned[column][row], tile)

    def test_turned_twice_all_is_as_it_was(self):
        for floor in FLOORS:
            self.assertEqual(turned_floor(turned_floor(floor)), floor)


class MirroredFloorTest(unittest.TestCase):
    def test_each_row_stands_backwards(self):
        self.assertEqual(mirrored_floor(("abc", "def")), ("cba", "fed"))
        self.assertEqual(mirrored_floor(("ab", "cd", "ef")), ("ba", "dc", "fe"))
        self.assertEqual(mirrored_floor(("aab",)), ("baa",))

    def test_edges(self):
        self.assertEqual(mirrored_floor(("q",)), ("q",))
        self.assertEqual(mirrored_floor(("a", "b", "c")), ("a", "b", "c"))
        long = ALPHABET * 2 + ALPHABET[:12]
        self.assertEqual(mirrored_floor((long,) * 64), ("".join(reversed(long)),) * 64)

    def test_place_by_place(self):
        for floor in FLOORS:
            mirrored = mirrored_floor(floor)
            self.assertIs(floor_good(mirrored), True)
            self.assertEqual([len(row) for row in mirrored], [len(row) for row in floor])
            for row, tiles in enumerate(floor):
                for column, tile in enumerate(tiles):
                    self.assertEqual(mirrored[row][len(tiles) - 1 - column], tile)

    def test_mirrored_twice_all_is_as_it_was(self):
        for floor in FLOORS:
            self.assertEqual(mirrored_floor(mirrored_floor(floor)), floor)


class SameAnswerTest(unittest.TestCase):
    def test_whatever_was_asked_in_between(self):
        turned = [turned_floor(floor) for floor in FLOORS]
        mirrored = [mirrored_floor(floor) for floor in FLOORS]
        before = copy.deepcopy(FLOORS)
        self.assertEqual([turned_floor(floor) for floor in reversed(FLOORS)], turned[::-1])
        self.assertEqual([mirrored_floor(floor) for floor in reversed(FLOORS)], mirrored[::-1])
        self.assertEqual(FLOORS, before)


if __name__ == "__main__":
    unittest.main()
