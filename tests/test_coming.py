"""4.1 to 4.5: pieces that ever come, and 0.2, 0.3, 0.4 as far as they speak of them."""

import copy
import unittest

from samples import (
    ALPHABET, CHESS, FLAT, GREAT_RULES, LONELY, MANY_RULES, PARTED, STRIPE, TOWER, TURNS, Asker, even_floor, even_rule,
    grown_by_hand, laid_far, laid_sizes, odd_numbers, odd_things, pieces_by_hand, tangled_rule, tiles_of,
)
from tilegrow.coming import closed_holds, closed_of, comes_at, pieces_of
from tilegrow.errors import NoFloor, NoNumber
from tilegrow.far import cut_far
from tilegrow.floors import floor_good
from tilegrow.pieces import crossings

SHAPES = [(rows, columns) for rows in (1, 2, 3) for columns in (1, 2, 3)]
SOME_RULES = [CHESS, STRIPE, TOWER, FLAT, LONELY, PARTED, TURNS, even_rule(2, 2), even_rule(1, 4), even_rule(3, 1)] + [
    tangled_rule(high, wide, "ab", high + 4 * wide) for high in (1, 2, 3, 4) for wide in (1, 2, 3, 4) if high + wide > 2
]


def great_by_hand(floor):
    return list(pieces_by_hand(floor, min(len(floor), 3), min(len(floor[0]), 3)))


def closed_by_hand(rule, tile):
    """4.2 word by word: from the tile's floor on all great pieces of what is grown."""
    found = {(tile,)}
    left = [(tile,)]
    while left:
        for piece in great_by_hand(grown_by_hand(rule, left.pop())):
            if piece not in found:
                found.add(piece)
                left.append(piece)
    return sorted(found)


def first_by_hand(rule, tile, most):
    """Each piece of the floors that have at most so many tiles, with the least growings and the first place there."""
    found = {}
    for growings in laid_sizes(rule, most):
        floor = laid_far(rule, tile, growings)
        for rows, columns in SHAPES:
            for piece, places in pieces_by_hand(floor, rows, columns).items():
                found.setdefault(piece, (growings,) + places[0])
    return found


class ClosedOfTest(Asker):
    def test_ordinary_rules(self):
        self.assertEqual(self.told(closed_of, even_rule(2, 2), "a"), [("a",), ("aa", "aa"), ("aaa", "aaa", "aaa")])
        self.assertEqual(self.told(closed_of, even_rule(4, 3), "a"), [("a",), ("aaa", "aaa", "aaa")])
        self.assertEqual(self.told(closed_of, even_rule(1, 2), "a"), [("a",), ("aa",), ("aaa",)])
        self.assertEqual(self.told(closed_of, even_rule(3, 1), "a"), [("a",), ("a", "a", "a")])
        self.assertEqual(self.told(closed_of, STRIPE, "a"), [
            ("a",), ("aab",), ("ab",), ("aba",), ("abb",), ("baa",), ("bab",), ("bba",),
        ])
        self.assertEqual(self.told(closed_of, TURNS, "b"), [("aaa",), ("b",), ("bbb",), ("ccc",)])

    def test_as_few_floors_as_can_be(self):
        for rule in SOME_RULES:
            for tile in tiles_of(rule):
                self.assertEqual(self.told(closed_of, rule, tile), closed_by_hand(rule, tile), (rule, tile))

    def test_each_piece_of_laid_floors_is_a_piece_of_a_floor_in_it(self):
        for rule in SOME_RULES:
            for tile in tiles_of(rule)[:2]:
                held = set()
                for floor in closed_of(rule, tile):
                    for rows, columns in SHAPES:
                        held.update(pieces_by_hand(floor, rows, columns))
                self.assertLessEqual(set(first_by_hand(rule, tile, 700)), held)

    def test_each_floor_in_it_comes_of_the_tile(self):
        for rule in (CHESS, STRIPE, TOWER, FLAT, LONELY, TURNS):
            for tile in tiles_of(rule):
                for floor in closed_of(rule, tile):
                    growings, row, column = comes_at(rule, tile, floor)
                    self.assertEqual(cut_far(rule, tile, growings, row, column, len(floor), len(floor[0])), floor)

    def test_the_greatest_rules(self):
        for rule in GREAT_RULES:
            closed = self.told(closed_of, rule, "a")
            self.assertEqual(closed, sorted(set(closed)))
            self.assertIs(closed_holds(rule, "a", closed), True)
            for number in (0, len(closed) // 2, len(closed) - 1):
                self.assertIs(closed_holds(rule, "a", closed[:number] + closed[number + 1:]), False)

    def test_no_tile(self):
        for thing in odd_things() + ["d", "z", "ab", ("a",), ["a"]]:
            self.no_tile(thing, closed_of, CHESS, thing)


class ClosedHoldsTest(Asker):
    def test_what_was_told_holds(self):
        for rule in SOME_RULES:
            for tile in tiles_of(rule):
                self.yes(closed_holds, rule, tile, closed_of(rule, tile))

    def test_a_floor_too_few(self):
        for rule in (CHESS, STRIPE, TOWER, LONELY, PARTED, TURNS, even_rule(2, 2), tangled_rule(2, 3, "ab", 5)):
            tile = tiles_of(rule)[0]
            closed = closed_of(rule, tile)
            step = max(1, len(closed) // 60)
            for number in range(0, len(closed), step):
                self.no(closed_holds, rule, tile, closed[:number] + closed[number + 1:])
        self.no(closed_holds, CHESS, "a", [])
        self.no(closed_holds, CHESS, "a", [("a",)])

    def test_floors_too_many_that_still_make_a_closed_list(self):
        both = sorted(set(closed_of(LONELY, "a")) | set(closed_of(LONELY, "c")))
        self.yes(closed_holds, LONELY, "a", both)
        self.yes(closed_holds, LONELY, "c", both)
        self.no(closed_holds, LONELY, "c", closed_of(LONELY, "a"))
        even = [("a",), ("aa", "aa"), ("aaa", "aaa", "aaa")]
        for more in (("aa",), ("a", "a"), ("aaa",), ("aaa", "aaa"), ("aa", "aa", "aa"), ("a", "a", "a")):
            needed = set(even)
            left = [more]
            while left:
                floor = left.pop()
                if floor not in needed:
                    needed.add(floor)
                    left += great_by_hand(grown_by_hand(even_rule(2, 2), floor))
            self.yes(closed_holds, even_rule(2, 2), "a", sorted(needed))
            for floor in needed - {more}:
                self.no(closed_holds, even_rule(2, 2), "a", sorted(needed - {floor}))

    def test_one_too_many_with_what_it_needs_or_without(self):
        met = set()
        for rule in (CHESS, STRIPE, FLAT, LONELY):
            closed = closed_of(rule, "a")
            for piece in (("aaa",) * 3, ("cac",) * 3, ("bbb", "aaa", "bbb"), ("c",), ("ac",), ("c", "b"), ("ca", "ac")):
                if piece not in closed:
                    holds = set(great_by_hand(grown_by_hand(rule, piece))) <= set(closed)
                    met.add(holds)
                    self.assertIs(self.told(closed_holds, rule, "a", sorted(closed + [piece])), holds)
        self.assertEqual(met, {True, False})
        self.no(closed_holds, LONELY, "b", sorted(closed_of(LONELY, "b") + [("c",)]))

    def test_floors_that_never_grow_in_rows(self):
        # Where blocks have one row, a floor of three rows has three when it is grown.
        row = even_rule(1, 2)
        closed = [("a",), ("aa",), ("aaa",)]
        self.yes(closed_holds, row, "a", closed)
        for rows in (2, 3):
            more = [("a",) * rows, ("aa",) * rows, ("aaa",) * rows]
            self.yes(closed_holds, row, "a", sorted(closed + more))
            self.yes(closed_holds, row, "a", sorted(closed + more[1:]))
            self.yes(closed_holds, row, "a", sorted(closed + more[2:]))
            self.no(closed_holds, row, "a", sorted(closed + more[:2]))
            self.no(closed_holds, row, "a", sorted(closed + more[:1]))
            self.no(closed_holds, row, "a", sorted(closed + more[:1] + more[2:]))
        column = even_rule(2, 1)
        closed = [("a",), ("a", "a"), ("a", "a", "a")]
        self.yes(closed_holds, column, "a", closed)
        self.yes(closed_holds, column, "a", sorted(closed + [("aaa",), ("aaa", "aaa"), ("aaa", "aaa", "aaa")]))
        self.no(closed_holds, column, "a", sorted(closed + [("aaa",), ("aaa", "aaa")]))
        self.no(closed_holds, column, "a", sorted(closed + [("aaa",), ("aa", "aa"), ("aa", "aa", "aa")]))
        mixed = (1, 2, (("a", ("ab",)), ("b", ("ba",))))
        closed = closed_of(mixed, "a")
        tall = {("ab", "ba", "ab")}
        left = list(tall)
        while left:
            for piece in great_by_hand(grown_by_hand(mixed, left.pop())):
                if piece not in tall:
                    tall.add(piece)
                    left.append(piece)
        self.yes(closed_holds, mixed, "a", sorted(closed + sorted(tall)))
        for piece in sorted(tall - {("ab", "ba", "ab")}):
            self.no(closed_holds, mixed, "a", sorted(closed + sorted(tall - {piece})))

    def test_not_rising_or_one_twice(self):
        closed = closed_of(STRIPE, "a")
        self.no(closed_holds, STRIPE, "a", closed[::-1])
        self.no(closed_holds, STRIPE, "a", closed[1:] + closed[:1])
        self.no(closed_holds, STRIPE, "a", closed[:2] + [closed[3], closed[2]] + closed[4:])
        for number in range(len(closed)):
            self.no(closed_holds, STRIPE, "a", closed[:number] + [closed[number]] + closed[number:])
        self.no(closed_holds, STRIPE, "a", closed + closed)

    def test_floors_too_great(self):
        closed = closed_of(even_rule(2, 2), "a")
        for floor in (("aaaa",), ("a",) * 4, even_floor(4, 4), even_floor(3, 4), even_floor(64, 64)):
            self.no(closed_holds, even_rule(2, 2), "a", sorted(closed + [floor]))

    def test_strange_tiles(self):
        closed = closed_of(even_rule(2, 2), "a")
        for floor in (("b",), ("z",), ("aab",), ("aaa", "aaa", "aaz")):
            self.no(closed_holds, even_rule(2, 2), "a", sorted(closed + [floor]))

    def test_whatever_is_handed_in(self):
        closed = closed_of(even_rule(2, 2), "a")
        self.yes(closed_holds, even_rule(2, 2), "a", closed)
        self.no(closed_holds, even_rule(2, 2), "a", tuple(closed))
        self.no(closed_holds, even_rule(2, 2), "a", dict.fromkeys(closed))
        self.no(closed_holds, even_rule(2, 2), "a", [list(floor) for floor in closed])
        self.no(closed_holds, even_rule(2, 2), "a", ["a", "aa/aa", "aaa/aaa/aaa"])
        for thing in odd_things():
            self.no(closed_holds, even_rule(2, 2), "a", thing)
            self.no(closed_holds, even_rule(2, 2), "a", [thing])
            for number in range(len(closed) + 1):
                self.no(closed_holds, even_rule(2, 2), "a", closed[:number] + [thing] + closed[number:])
                self.no(closed_holds, even_rule(2, 2), "a", closed[:number] + [(thing,)] + closed[number:])

    def test_no_tile_goes_ahead_of_all_else(self):
        for thing in odd_things() + ["d", "z"]:
            self.no_tile(thing, closed_holds, CHESS, thing, [])
            self.no_tile(thing, closed_holds, CHESS, thing, thing)
            self.no_tile(thing, closed_holds, CHESS, thing, [("a",)])

    def test_a_list_changed_behind_the_call(self):
        closed = closed_of(STRIPE, "a")
        self.yes(closed_holds, STRIPE, "a", closed)
        last = closed.pop()
        self.no(closed_holds, STRIPE, "a", closed)
        closed.append(last)
        self.yes(closed_holds, STRIPE, "a", closed)
        self.assertEqual(closed_of(STRIPE, "a"), closed)


class PiecesOfTest(Asker):
    def test_ordinary_shapes(self):
        self.assertEqual(self.told(pieces_of, STRIPE, "a", 1, 1), [("a",), ("b",)])
        self.assertEqual(self.told(pieces_of, STRIPE, "a", 1, 2), [("aa",), ("ab",), ("ba",), ("bb",)])
        self.assertEqual(self.told(pieces_of, STRIPE, "c", 1, 3), [("ccc",)])
        self.assertEqual(self.told(pieces_of, LONELY, "a", 2, 2), [("ab", "bb"), ("bb", "bb")])
        self.assertEqual(self.told(pieces_of, LONELY, "b", 1, 1), [("b",)])

    def test_all_nine_shapes_against_laid_floors(self):
        for rule in (CHESS, STRIPE, TOWER, FLAT, LONELY, PARTED, TURNS, even_rule(4, 4), tangled_rule(2, 2, "ab", 3)):
            for tile in tiles_of(rule):
                closed = closed_by_hand(rule, tile)
                found = first_by_hand(rule, tile, 500)
                for rows, columns in SHAPES:
                    expected = set()
                    for floor in closed:
                        expected.update(pieces_by_hand(floor, rows, columns))
                    self.assertEqual(self.told(pieces_of, rule, tile, rows, columns), sorted(expected))
                    shaped = {piece for piece in found if (len(piece), len(piece[0])) == (rows, columns)}
                    self.assertLessEqual(shaped, expected)

    def test_a_shape_that_never_comes(self):
        for rows, columns in SHAPES:
            if rows > 1:
                self.assertEqual(self.told(pieces_of, STRIPE, "a", rows, columns), [])
            if columns > 1:
                self.assertEqual(self.told(pieces_of, TOWER, "a", rows, columns), [])

    def test_tiles_that_come_late(self):
        chain = (2, 1, tuple((tile, (tile, after)) for tile, after in zip(ALPHABET, ALPHABET[1:] + "z")))
        self.assertEqual(self.told(pieces_of, chain, "a", 1, 1), [(tile,) for tile in ALPHABET])
        self.assertEqual(self.told(pieces_of, chain, "y", 1, 1), [("y",), ("z",)])

    def test_the_greatest_rules(self):
        for rule in GREAT_RULES:
            for rows, columns in ((1, 1), (1, 2), (2, 1), (2, 2)):
                expected = [
                    piece for piece, many in crossings(rule, "j", 60) if (len(piece), len(piece[0])) == (rows, columns)
                ]
                self.assertLessEqual(set(expected), set(self.told(pieces_of, rule, "j", rows, columns)))
            pieces = self.told(pieces_of, rule, "j", 3, 3)
            self.assertEqual(pieces, sorted(set(pieces)))
            for piece in pieces[::len(pieces) // 5]:
                growings, row, column = comes_at(rule, "j", piece)
                self.assertEqual(cut_far(rule, "j", growings, row, column, 3, 3), piece)

    def test_no_number(self):
        for thing in odd_numbers(1, 3) + ["1", "3", 4, True, False, None]:
            self.refused(NoNumber, pieces_of, CHESS, "a", thing, 1)
            self.refused(NoNumber, pieces_of, CHESS, "a", 1, thing)
            self.refused(NoNumber, pieces_of, CHESS, "a", thing, thing)
            self.refused(NoNumber, pieces_of, STRIPE, "a", 3, thing)

    def test_no_tile_goes_ahead_of_no_number(self):
        for thing in odd_things() + ["d", "z"]:
            self.no_tile(thing, pieces_of, CHESS, thing, 1, 1)
            self.no_tile(thing, pieces_of, CHESS, thing, 0, 4)
            self.no_tile(thing, pieces_of, CHESS, thing, None, thing)


class ComesAtTest(Asker):
    def test_ordinary_pieces(self):
        self.assertEqual(self.told(comes_at, STRIPE, "a", ("a",)), (0, 0, 0))
        self.assertEqual(self.told(comes_at, STRIPE, "a", ("b",)), (1, 0, 1))
        self.assertEqual(self.told(comes_at, STRIPE, "a", ("bb",)), (2, 0, 1))
        self.assertEqual(self.told(comes_at, STRIPE, "a", ("aa",)), (3, 0, 5))
        self.assertEqual(self.told(comes_at, CHESS, "a", ("ab", "ba")), (1, 0, 0))
        self.assertEqual(self.told(comes_at, CHESS, "a", ("c", "b")), (2, 0, 3))
        self.assertEqual(self.told(comes_at, CHESS, "a", ("aab", "cab", "bba")), (2, 1, 1))

    def test_each_piece_of_laid_floors(self):
        for rule in MANY_RULES:
            for tile in tiles_of(rule)[:2]:
                found = sorted(first_by_hand(rule, tile, 260).items())
                for piece, first in found[::max(1, len(found) // 40)]:
                    self.assertEqual(comes_at(rule, tile, piece), first, (rule, tile, piece))

    def test_the_first_place_goes_by_rows(self):
        rule = (2, 2, (("a", ("bc", "aa")), ("b", ("aa", "da")), ("c", ("ad", "aa")), ("d", ("aa", "aa"))))
        self.assertEqual(self.told(comes_at, rule, "a", ("d",)), (2, 0, 3))
        other = (2, 2, (("a", ("bc", "aa")), ("b", ("aa", "da")), ("c", ("aa", "da")), ("d", ("aa", "aa"))))
        self.assertEqual(self.told(comes_at, other, "a", ("d",)), (2, 1, 0))

    def test_the_least_number_goes_ahead_of_the_place(self):
        rule = (1, 2, (("a", ("bc",)), ("b", ("cb",)), ("c", ("cc",))))
        self.assertEqual(self.told(comes_at, rule, "a", ("c",)), (1, 0, 1))
        self.assertEqual(first_by_hand(rule, "a", 4)[("c",)], (1, 0, 1))
        self.assertEqual(self.told(comes_at, rule, "a", ("cb",)), (2, 0, 0))

    def test_none_where_it_never_comes(self):
        for rule in SOME_RULES:
            for tile in tiles_of(rule):
                for piece in (("a", "b"), ("ab",), ("aaa", "aaa", "aaa"), ("ab", "ba"), ("abb", "bba", "aaa"), ("c",)):
                    coming = piece in pieces_of(rule, tile, len(piece), len(piece[0]))
                    self.assertEqual(self.told(comes_at, rule, tile, piece) is not None, coming)
        self.assertIsNone(self.told(comes_at, STRIPE, "a", ("c",)))
        self.assertIsNone(self.told(comes_at, STRIPE, "a", ("a", "b")))
        self.assertIsNone(self.told(comes_at, STRIPE, "a", ("aaa",)))
        self.assertIsNone(self.told(comes_at, TOWER, "a", ("aaa", "aaa", "aaa")))

    def test_tiles_that_the_rule_lacks(self):
        for piece in (("z",), ("az",), ("aaa", "aza", "aaa"), ("zz", "zz")):
            self.assertIsNone(self.told(comes_at, CHESS, "a", piece))

    def test_pieces_that_come_late(self):
        chain = (2, 2, tuple((tile, (tile * 2, tile + after)) for tile, after in zip(ALPHABET, ALPHABET[1:] + "z")))
        for number, tile in enumerate(ALPHABET):
            last = 2 ** number - 1
            self.assertEqual(self.told(comes_at, chain, "a", (tile,)), (number, last, last))

    def test_a_piece_that_comes_after_more_than_60_growings(self):
        # The tile z lays four wheels of 3, 4, 5 and 7 tiles; their corners in the middle turn on for 420 growings.
        wheels = ["abc", "defg", "hijkl", "mnopqrs"]
        after = {}
        for wheel in wheels:
            after.update(zip(wheel, wheel[1:] + wheel[0]))
        blocks = {tile: (after[tile] * 2, after[tile] * 2) for tile in after}
        rule = (2, 2, tuple(sorted({**blocks, "z": ("ad", "hm")}.items())))
        for growings in (1, 2, 60, 61, 62, 100, 419, 420):
            turned = growings - 1
            tiles = [wheel[turned % len(wheel)] for wheel in wheels]
            piece = (tiles[0] + tiles[1], tiles[2] + tiles[3])
            middle = 2 ** turned - 1
            self.assertEqual(self.told(comes_at, rule, "z", piece), (growings, middle, middle))
        self.assertGreaterEqual(len(pieces_of(rule, "z", 2, 2)), 420)

    def test_the_greatest_rules(self):
        for rule in GREAT_RULES:
            found = first_by_hand(rule, "h", 4096)
            for piece, first in sorted(found.items())[::1500]:
                self.assertEqual(self.told(comes_at, rule, "h", piece), first)

    def test_no_floor(self):
        things = odd_things() + [
            "a", ["a"], ("a", "ab"), ("aaaa",), ("a",) * 4, even_floor(4, 4), even_floor(3, 4), even_floor(4, 3), ("",),
            (), ("A",), ("a ",), (("a",),), (["a"],), (None,), ("ab", 1), even_floor(64, 64), even_floor(65, 1),
        ]
        for thing in things:
            self.refused(NoFloor, comes_at, CHESS, "a", thing)
            self.refused(NoFloor, comes_at, STRIPE, "c", thing)

    def test_no_tile_goes_ahead_of_no_floor(self):
        for thing in odd_things() + ["d", "z"]:
            self.no_tile(thing, comes_at, CHESS, thing, ("a",))
            self.no_tile(thing, comes_at, CHESS, thing, thing)
            self.no_tile(thing, comes_at, CHESS, thing, ("aaaa",))


class ConsequencesTest(Asker):
    RULES = [CHESS, STRIPE, TOWER, LONELY, PARTED, tangled_rule(2, 3, "ab", 5)]

    def test_pieces_of_a_shape_are_those_for_which_comes_at_tells_a_place(self):
        for rule in self.RULES:
            tiles = tiles_of(rule)
            for rows, columns in ((1, 1), (1, 2), (2, 1), (2, 2), (1, 3), (3, 1)):
                if len(tiles) ** (rows * columns) > 130:
                    continue
                floors = [""]
                for place in range(rows * columns):
                    floors = [text + tile for text in floors for tile in tiles]
                pieces = [tuple(text[row * columns:][:columns] for row in range(rows)) for text in floors]
                coming = [piece for piece in pieces if comes_at(rule, tiles[0], piece) is not None]
                self.assertEqual(pieces_of(rule, tiles[0], rows, columns), sorted(coming))

    def test_each_piece_of_a_piece_that_comes_comes_no_later(self):
        for rule in self.RULES:
            for tile in tiles_of(rule):
                shape = (1 if rule[0] == 1 else 3, 1 if rule[1] == 1 else 3)
                pieces = pieces_of(rule, tile, *shape)
                for piece in pieces[::max(1, len(pieces) // 12)]:
                    growings = comes_at(rule, tile, piece)[0]
                    for rows, columns in SHAPES:
                        for part in pieces_by_hand(piece, rows, columns):
                            self.assertLessEqual(comes_at(rule, tile, part)[0], growings)

    def test_what_comes_of_a_tile_in_a_block(self):
        for rule in self.RULES:
            for tile, block in rule[2]:
                for part in sorted(set("".join(block))):
                    for piece in pieces_of(rule, part, 1, 2)[:4] + pieces_of(rule, part, 2, 2)[:4]:
                        self.assertLessEqual(comes_at(rule, tile, piece)[0], comes_at(rule, part, piece)[0] + 1)


class SameAnswerTest(Asker):
    def test_whatever_was_asked_in_between(self):
        questions = [
            (closed_of, CHESS, "a"), (pieces_of, CHESS, "a", 2, 2), (comes_at, CHESS, "a", ("c", "b")),
            (closed_holds, CHESS, "a", closed_of(CHESS, "a")), (closed_of, PARTED, "z"),
            (pieces_of, PARTED, "z", 3, 1), (comes_at, PARTED, "z", ("m",)),
        ]
        before = copy.deepcopy(questions)
        first = [asked(*handed) for asked, *handed in questions]
        again = [asked(*handed) for asked, *handed in reversed(questions)]
        self.assertEqual(again, first[::-1])
        self.assertEqual(questions, before)

    def test_all_that_is_told_are_floors(self):
        for rule in SOME_RULES:
            for tile in tiles_of(rule):
                for floor in closed_of(rule, tile) + pieces_of(rule, tile, 1, 1):
                    self.assertIs(floor_good(floor), True)


if __name__ == "__main__":
    unittest.main()
