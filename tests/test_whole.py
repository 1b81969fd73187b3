"""0.1 to 0.4 and the interface, over the whole program."""

import ast
import copy
import importlib
import inspect
import itertools
import os
import random
import subprocess
import sys
import unittest

from samples import (
    ALPHABET, CHESS, FLAT, GREAT_RULES, LONELY, PARTED, STRIPE, TOWER, TURNS, Asker, odd_numbers, odd_things,
    own_paint, paint_of, spoil, still_rule,
)
from tilegrow import alike, coming, counts, far, families, floors, least, pieces, rules, shares, texts, ways
from tilegrow.desk import Desk
from tilegrow.errors import (
    FloorError, NoFloor, NoNumber, NoPlace, NoRow, NoRule, NoText, NoTile, TooGreat, Unlike,
)

FAR = 10 ** 40
GREAT = still_rule(4, 4, ALPHABET, 3)
MORSE = ((1, 2, (("a", ("ab",)), ("b", ("ba",)))), "a", (("a", "x"), ("b", "y")))
MORSE_BY_FOUR = ((1, 4, (("p", ("pqqp",)), ("q", ("qppq",)))), "p", (("p", "x"), ("q", "y")))
CHESS_PAINT = (("a", "x"), ("b", "y"), ("c", "x"))
WAY = ((0, 1, ("ab",)), (0, 0, ("a",)))

# The names of the interface, with the names of what is handed in.
INTERFACE = {
    "floors": ["floor_good thing", "turned_floor floor", "mirrored_floor floor"],
    "rules": ["rule_good thing", "rule_of high wide things", "grown_floor rule floor", "grown_often rule floor often",
              "turned_rule rule", "mirrored_rule rule", "joined_rule rule other"],
    "counts": ["tile_counts rule tile growings", "counts_within rule tile growings rows columns", "table_of rule",
               "table_power rule growings"],
    "shares": ["still_shares rule", "shares_hold rule thing"],
    "pieces": ["places_in piece floor", "times_in piece floor", "times_far rule tile growings piece",
               "crossings rule tile growings"],
    "families": ["comes_after rule tile", "tile_groups rule", "shut_groups rule", "mixing_time rule",
                 "why_unmixed rule", "unmixed_holds rule thing", "corner_tile rule tile bottom right growings",
                 "corner_round rule tile bottom right", "still_tiles rule"],
    "least": ["alike_tiles rule paint", "least_floor painted", "least_holds painted thing", "laid_over painted other",
              "taken_signs rule paint row column", "turned_paint painted"],
    "far": ["tile_far rule tile growings row column", "cut_far rule tile growings row column high wide",
            "line_far rule tile growings row column", "digits_far rule growings row column", "place_far rule digits",
            "line_holds rule thing", "first_far rule tile growings other"],
    "coming": ["closed_of rule tile", "closed_holds rule tile thing", "pieces_of rule tile high wide",
               "comes_at rule tile piece"],
    "ways": ["cuttings rule floor", "back_list rule floor", "way_holds rule tile floor thing",
             "way_of rule tile floor", "way_place rule way", "ways_count rule tile floor growings",
             "offsets_of rule floor", "never_holds rule tile floor thing", "never_of rule tile floor"],
    "alike": ["still_at rule tile row column", "still_cut rule tile row column high wide", "paint_good rule thing",
              "sign_at painted row column", "common_power rule other", "first_unlike painted other",
              "alike_holds painted other thing", "alike_of painted other"],
    "texts": ["floor_shown floor", "rule_shown rule", "floor_read text", "rule_read text"],
}

# A question for each name of the interface, and more where answers are of several kinds.
QUESTIONS = [
    (floors.floor_good, ("ab", "ba")), (floors.floor_good, ["ab"]), (floors.turned_floor, ("abc", "cba")),
    (floors.mirrored_floor, ("abc", "aab")), (rules.rule_good, CHESS), (rules.rule_good, list(CHESS)),
    (rules.rule_of, 1, 2, [("b", ("ba",)), ("a", ("ab",))]), (rules.grown_floor, CHESS, ("ab", "ca")),
    (rules.grown_often, CHESS, ("a",), 5), (rules.turned_rule, FLAT), (rules.mirrored_rule, FLAT),
    (rules.joined_rule, CHESS, CHESS), (counts.tile_counts, GREAT, "q", 1000),
    (counts.counts_within, CHESS, "a", 60, 10 ** 18, 10 ** 17), (counts.table_of, CHESS),
    (counts.table_power, CHESS, 1000), (shares.still_shares, CHESS), (shares.still_shares, PARTED),
    (shares.shares_hold, CHESS, ((1, 3), (2, 5), (4, 15))), (pieces.places_in, ("aa",), ("aaab",)),
    (pieces.times_in, ("aa",), ("aaab",)), (pieces.times_far, CHESS, "a", 200, ("ab", "ab")),
    (pieces.crossings, CHESS, "a", 20), (families.comes_after, PARTED, "z"), (families.tile_groups, PARTED),
    (families.shut_groups, PARTED), (families.mixing_time, CHESS), (families.mixing_time, TURNS),
    (families.why_unmixed, TURNS), (families.unmixed_holds, TURNS, ("a", "b", 3, 0)),
    (families.corner_tile, FLAT, "b", 1, 1, FAR), (families.corner_round, FLAT, "b", 1, 0),
    (families.still_tiles, CHESS), (least.alike_tiles, CHESS, CHESS_PAINT),
    (least.least_floor, (CHESS, "c", CHESS_PAINT)),
    (least.least_holds, MORSE, MORSE), (least.laid_over, MORSE, MORSE), (least.taken_signs, CHESS, CHESS_PAINT, 1, 0),
    (least.turned_paint, MORSE), (far.tile_far, CHESS, "a", 60, 10 ** 18, 10 ** 17),
    (far.cut_far, CHESS, "a", 60, 10 ** 18, 10 ** 17, 64, 64), (far.line_far, CHESS, "a", 60, 10 ** 18, 10 ** 17),
    (far.digits_far, CHESS, 60, 10 ** 18, 10 ** 17), (far.place_far, CHESS, [(1, 1), (0, 1)]),
    (far.line_holds, CHESS, (["a", "a", "b"], [(1, 1), (0, 1)])), (far.first_far, CHESS, "a", 60, "c"),
    (coming.closed_of, CHESS, "a"), (coming.closed_holds, STRIPE, "c", [("c",), ("cc",), ("ccc",)]),
    (coming.pieces_of, CHESS, "a", 2, 3), (coming.comes_at, CHESS, "a", ("c", "b")),
    (coming.comes_at, STRIPE, "a", ("aaa",)), (ways.cuttings, STRIPE, ("aba",)), (ways.back_list, STRIPE, ("abb",)),
    (ways.way_holds, STRIPE, "a", ("bb",), WAY), (ways.way_of, STRIPE, "a", ("bb",)), (ways.way_place, STRIPE, WAY),
    (ways.ways_count, STRIPE, "a", ("bb",), 60), (ways.offsets_of, STRIPE, ("aba",)),
    (ways.never_holds, STRIPE, "a", ("aaa",), ("back", (("aaa",),))), (ways.never_of, STRIPE, "a", ("aaa",)),
    (alike.still_at, CHESS, "a", FAR - 1, 5), (alike.still_cut, GREAT, "c", 3, FAR - 1, 64, 64),
    (alike.paint_good, CHESS, CHESS_PAINT), (alike.sign_at, (CHESS, "a", CHESS_PAINT), 8, FAR - 1),
    (alike.common_power, CHESS, CHESS), (alike.common_power, CHESS, FLAT), (alike.first_unlike, MORSE, MORSE_BY_FOUR),
    (alike.first_unlike, (CHESS, "a", CHESS_PAINT), (CHESS, "c", CHESS_PAINT)), (alike.alike_of, MORSE, MORSE_BY_FOUR),
    (alike.alike_holds, MORSE, MORSE_BY_FOUR, (("a", "p"), ("b", "q"))), (texts.floor_shown, ("ab", "ba")),
    (texts.rule_shown, FLAT), (texts.floor_read, "ab/ba"), (texts.rule_read, "rule 1 2\na ab\nb ba"),
]

# Where "whatever is handed in" stands and is refused: what is asked of it, and the class of the refusal.
REFUSED = [
    (NoTile, lambda thing: far.tile_far(CHESS, thing, 2, 0, 0)),
    (NoTile, lambda thing: far.tile_far(CHESS, thing, thing, thing, thing)),
    (NoTile, lambda thing: far.cut_far(CHESS, thing, 2, 0, 0, 1, 1)),
    (NoTile, lambda thing: far.line_far(CHESS, thing, 2, 0, 0)),
    (NoTile, lambda thing: far.first_far(CHESS, thing, 2, "a")),
    (NoTile, lambda thing: far.first_far(CHESS, "a", 2, thing)),
    (NoTile, lambda thing: counts.tile_counts(CHESS, thing, 5)),
    (NoTile, lambda thing: counts.counts_within(CHESS, thing, 5, 0, 0)),
    (NoTile, lambda thing: coming.closed_of(CHESS, thing)),
    (NoTile, lambda thing: coming.closed_holds(CHESS, thing, [])),
    (NoTile, lambda thing: coming.closed_holds(CHESS, thing, thing)),
    (NoTile, lambda thing: coming.pieces_of(CHESS, thing, 1, 1)),
    (NoTile, lambda thing: coming.pieces_of(CHESS, thing, thing, thing)),
    (NoTile, lambda thing: coming.comes_at(CHESS, thing, ("a",))),
    (NoTile, lambda thing: coming.comes_at(CHESS, thing, thing)),
    (NoTile, lambda thing: pieces.times_far(CHESS, thing, 5, ("a",))),
    (NoTile, lambda thing: pieces.times_far(CHESS, thing, 5, thing)),
    (NoTile, lambda thing: pieces.crossings(CHESS, thing, 5)),
    (NoTile, lambda thing: families.comes_after(CHESS, thing)),
    (NoTile, lambda thing: families.corner_tile(CHESS, thing, 0, 1, FAR)),
    (NoTile, lambda thing: families.corner_round(CHESS, thing, 1, 0)),
    (NoTile, lambda thing: alike.still_at(CHESS, thing, 0, 0)),
    (NoTile, lambda thing: alike.still_at(CHESS, thing, thing, thing)),
    (NoTile, lambda thing: alike.still_cut(CHESS, thing, 0, 0, 1, 1)),
    (NoFloor, lambda thing: coming.comes_at(CHESS, "a", thing)),
    (NoFloor, lambda thing: pieces.times_far(CHESS, "a", 5, thing)),
    (NoPlace, lambda thing: far.place_far(CHESS, thing if thing != [] else None)),
    (NoPlace, lambda thing: far.place_far(CHESS, [(0, 0), thing])),
    (NoRow, lambda thing: Desk().say(thing)),
    (NoRow, lambda thing: Desk().say([thing])),
    (NoRule, lambda thing: rules.rule_of(thing, 2, [])),
    (NoRule, lambda thing: rules.rule_of(2, thing, [])),
    (NoRule, lambda thing: rules.rule_of(2, 2, [thing])),
    (NoText, lambda thing: texts.floor_read([thing])),
    (NoText, lambda thing: texts.rule_read(thing)),
]

# Where a whole number of some bounds is due: the least, the most, the class, and what is asked of it.
BOUNDED = [
    (0, 60, NoNumber, lambda thing: far.tile_far(CHESS, "a", thing, 0, 0)),
    (0, 60, NoNumber, lambda thing: far.cut_far(CHESS, "a", thing, 0, 0, 1, 1)),
    (0, 60, NoNumber, lambda thing: far.line_far(CHESS, "a", thing, 0, 0)),
    (0, 60, NoNumber, lambda thing: far.digits_far(CHESS, thing, 0, 0)),
    (0, 60, NoNumber, lambda thing: far.first_far(CHESS, "a", thing, "a")),
    (1, 3, NoNumber, lambda thing: coming.pieces_of(CHESS, "a", thing, 1)),
    (1, 3, NoNumber, lambda thing: coming.pieces_of(CHESS, "a", 1, thing)),
    (0, 3, NoPlace, lambda thing: far.tile_far(CHESS, "a", 2, thing, 0)),
    (0, 3, NoPlace, lambda thing: far.tile_far(CHESS, "a", 2, 0, thing)),
    (0, 3, NoPlace, lambda thing: far.line_far(CHESS, "a", 2, 0, thing)),
    (0, 3, NoPlace, lambda thing: far.digits_far(CHESS, 2, thing, 0)),
    (0, 2, NoPlace, lambda thing: far.cut_far(CHESS, "a", 2, thing, 0, 2, 1)),
    (0, 4, NoPlace, lambda thing: counts.counts_within(CHESS, "a", 2, thing, 0)),
    (0, 4, NoPlace, lambda thing: counts.counts_within(CHESS, "a", 2, 0, thing)),
    (0, FAR - 1, NoPlace, lambda thing: alike.still_at(CHESS, "a", thing, 0)),
    (0, FAR - 1, NoPlace, lambda thing: alike.still_at(CHESS, "a", 0, thing)),
    (0, FAR - 1, NoPlace, lambda thing: alike.still_cut(CHESS, "a", thing, 0, 64, 64)),
    (0, FAR - 1, NoPlace, lambda thing: alike.sign_at((CHESS, "a", CHESS_PAINT), 0, thing)),
    (0, 0, NoPlace, lambda thing: alike.still_at(STRIPE, "a", thing, 0)),
    (0, 0, NoPlace, lambda thing: alike.still_cut(TOWER, "a", 0, thing, 64, 1)),
    (0, 1, NoPlace, lambda thing: least.taken_signs(CHESS, CHESS_PAINT, thing, 0)),
    (0, 1, NoPlace, lambda thing: least.taken_signs(CHESS, CHESS_PAINT, 1, thing)),
]

# Where whatever is handed in is told to be something, or not.
LOOKED_AT = [
    lambda thing: floors.floor_good(thing),
    lambda thing: rules.rule_good(thing),
    lambda thing: far.line_holds(CHESS, thing),
    lambda thing: shares.shares_hold(CHESS, thing),
    lambda thing: coming.closed_holds(CHESS, "a", thing),
    lambda thing: ways.way_holds(STRIPE, "a", ("bb",), thing),
    lambda thing: ways.never_holds(STRIPE, "a", ("aaa",), thing),
    lambda thing: families.unmixed_holds(TURNS, thing),
    lambda thing: alike.paint_good(CHESS, thing),
    lambda thing: alike.alike_holds(MORSE, MORSE_BY_FOUR, thing),
    lambda thing: least.least_holds(MORSE, thing),
]

FIELDS = {NoFloor: [], NoPlace: [], NoNumber: [], NoRow: [], Unlike: [], NoTile: ["tile"], NoRule: ["number"],
          NoText: ["row"], TooGreat: ["many", "most"]}


def answers(questions):
    return [asked(*handed) for asked, *handed in questions]


class InterfaceTest(unittest.TestCase):
    def test_names_and_arguments(self):
        for module, rows in INTERFACE.items():
            found = importlib.import_module("tilegrow." + module)
            for row in rows:
                name, *handed = row.split()
                self.assertEqual(list(inspect.signature(getattr(found, name)).parameters), handed, name)

    def test_the_desk(self):
        self.assertEqual(list(inspect.signature(Desk).parameters), [])
        self.assertEqual(list(inspect.signature(Desk().say).parameters), ["row"])

    def test_each_name_is_asked(self):
        asked = {question[0].__name__ for question in QUESTIONS}
        self.assertEqual(asked, {row.split()[0] for rows in INTERFACE.values() for row in rows})


class SourcesTest(unittest.TestCase):
    FOLDER = os.path.dirname(os.path.abspath(floors.__file__))

    def test_nothing_from_outside_is_drawn_in(self):
        for name in sorted(os.listdir(self.FOLDER)):
            if not name.endswith(".py"):
                continue
            with open(os.path.join(self.FOLDER, name), encoding="ascii") as source:
                tree = ast.parse(source.read())
            for node in ast.walk(tree):
                self.assertNotIsInstance(node, (ast.Import, ast.Global, ast.Nonlocal, ast.With))
                if isinstance(node, ast.ImportFrom):
                    self.assertTrue(node.module.startswith("tilegrow."), (name, node.module))
                if isinstance(node, ast.Name):
                    self.assertNotIn(node.id, ("open", "print", "input", "exec", "eval", "hash", "id"))


class SameAnswerTest(Asker):
    def test_each_question_by_itself(self):
        for asked, *handed in QUESTIONS:
            self.told(asked, *handed)

    def test_in_whatever_order(self):
        before = copy.deepcopy([handed for asked, *handed in QUESTIONS])
        first = answers(QUESTIONS)
        self.assertEqual(answers(QUESTIONS[::-1]), first[::-1])
        for seed in range(3):
            order = list(range(len(QUESTIONS)))
            random.Random(seed).shuffle(order)
            self.assertEqual(answers([QUESTIONS[number] for number in order]), [first[number] for number in order])
        self.assertEqual([handed for asked, *handed in QUESTIONS], before)

    def test_what_was_told_may_be_changed(self):
        kept = copy.deepcopy(answers(QUESTIONS))
        for told in answers(QUESTIONS):
            spoil(told)
        self.assertEqual(answers(QUESTIONS), kept)

    def test_what_was_handed_in_may_be_changed_behind_the_call(self):
        things = [("b", ("ba",)), ("a", ("ab",))]
        rule = rules.rule_of(1, 2, things)
        things.clear()
        self.assertEqual(rule, (1, 2, (("a", ("ab",)), ("b", ("ba",)))))
        thing = ["a", {"b": []}]
        with self.assertRaises(NoTile) as met:
            alike.still_at(CHESS, thing, 0, 0)
        self.assertEqual(met.exception.tile, ["a", {"b": []}])
        self.assertEqual(thing, ["a", {"b": []}])

    def test_refusals_in_between_change_nothing(self):
        first = answers(QUESTIONS)
        for kind, asked in REFUSED:
            with self.assertRaises(kind):
                asked(None)
        for least_number, most, kind, asked in BOUNDED:
            with self.assertRaises(kind):
                asked(most + 1)
        self.assertEqual(answers(QUESTIONS), first)

    def test_no_chance_in_it(self):
        # The order of sets hangs on this setting of Python's; no answer does.
        program = "import test_whole; print(test_whole.answers(test_whole.QUESTIONS))"
        folder = os.path.dirname(os.path.abspath(__file__))
        shown = set()
        for seed in ("0", "1", "77"):
            path = os.pathsep.join([folder, os.path.dirname(folder)])
            setting = dict(os.environ, PYTHONHASHSEED=seed, PYTHONPATH=path, PYTHONDONTWRITEBYTECODE="1")
            ran = subprocess.run([sys.executable, "-c", program], env=setting, capture_output=True, check=True)
            shown.add(ran.stdout)
        self.assertEqual(len(shown), 1)


class WhateverIsHandedInTest(Asker):
    def test_refused_with_its_class(self):
        for kind, asked in REFUSED:
            for thing in odd_things():
                error = self.refused(kind, asked, thing)
                self.assertEqual(sorted(vars(error)), FIELDS[kind])
                if kind is NoTile:
                    self.assertIs(error.tile, thing)

    def test_no_such_number(self):
        for least_number, most, kind, asked in BOUNDED:
            for thing in odd_numbers(least_number, most):
                error = self.refused(kind, asked, thing)
                self.assertEqual(vars(error), {})
            for number in (least_number, most):
                asked(number)

    def test_looked_at(self):
        for asked in LOOKED_AT:
            for thing in odd_things():
                self.no(asked, thing)
        # Tuples of texts among these may be floors.
        for asked in LOOKED_AT[1:]:
            for thing in odd_things():
                for other in ([thing], (thing, thing, "a", 1), ("back", thing), ("back", (thing,)), (["a", "b"], thing),
                              (thing, "a", thing), ((thing,), (thing,)), [(thing, thing)], (None, thing)):
                    self.no(asked, other)

    def test_deeper_than_the_odd_things_go(self):
        for depth, make in itertools.product((48, 49, 50), (lambda thing: [thing], lambda thing: (thing,),
                                                            lambda thing: {"a": thing}, lambda thing: ("a", thing))):
            for core in (None, True, 7, "a", 10 ** 99):
                thing = core
                for level in range(depth):
                    thing = make(thing)
                for asked in LOOKED_AT:
                    self.no(asked, thing)
                for kind, asked in REFUSED:
                    self.refused(kind, asked, thing)


class RefusalsTest(Asker):
    def test_each_class_stands_straight_under_floor_error(self):
        self.assertEqual(FloorError.__bases__, (ValueError,))
        for kind in FIELDS:
            self.assertEqual(kind.__bases__, (FloorError,))

    def test_each_class_is_met_with_its_fields(self):
        met = [
            (NoTile, {"tile": "z"}, rules.grown_floor, CHESS, ("az",)),
            (TooGreat, {"many": 128, "most": 64}, rules.grown_often, CHESS, ("a",), 7),
            (TooGreat, {"many": 8, "most": 4}, rules.joined_rule, rules.joined_rule(CHESS, CHESS), CHESS),
            (TooGreat, {"many": 601, "most": 26}, least.laid_over, self.wheel(25), self.wheel(24)),
            (NoRule, {"number": -1}, rules.rule_of, 1, 1, []),
            (NoRule, {"number": 0}, rules.rule_of, 1, 2, []),
            (NoRule, {"number": 1}, rules.rule_of, 1, 2, [("a", ("aa",)), ("b", ("bc",))]),
            (NoText, {"row": 0}, texts.rule_read, None),
            (NoText, {"row": 1}, texts.floor_read, "a b"),
            (NoText, {"row": 2}, texts.rule_read, "rule 1 2"),
            (Unlike, {}, alike.first_unlike, MORSE, (CHESS, "a", CHESS_PAINT)),
            (Unlike, {}, alike.alike_of, MORSE, (CHESS, "a", CHESS_PAINT)),
            (Unlike, {}, alike.alike_holds, MORSE, (CHESS, "a", CHESS_PAINT), ()),
            (Unlike, {}, least.laid_over, MORSE, MORSE_BY_FOUR),
            (NoRow, {}, Desk().say, "back"),
            (NoFloor, {}, coming.comes_at, CHESS, "a", ("aaaa",)),
            (NoNumber, {}, coming.pieces_of, CHESS, "a", 4, 1),
            (NoPlace, {}, alike.still_at, CHESS, "a", FAR, 0),
        ]
        for kind, fields, asked, *handed in met:
            self.assertEqual(vars(self.refused(kind, asked, *handed)), fields)
        self.assertEqual({kind for kind, *rest in met}, set(FIELDS))

    def wheel(self, many):
        tiles = ALPHABET[1:many + 1]
        blocks = [("a", ("ab",))] + [(tile, (after * 2,)) for tile, after in zip(tiles, tiles[1:] + tiles[0])]
        rule = (1, 2, tuple(blocks))
        return (rule, "a", own_paint(rule))


class HandedInAgainTest(Asker):
    """0.1, 0.2: what isn't plain comes with what shows it; what was told is handed in again, however great it is."""

    def test_closed_lists(self):
        for rule in (CHESS, FLAT, GREAT, GREAT_RULES[1]):
            self.assertIs(coming.closed_holds(rule, "a", coming.closed_of(rule, "a")), True)

    def test_lines_and_places(self):
        for rule in (CHESS, STRIPE, GREAT):
            row, column = rule[0] ** 60 - 1, rule[1] ** 60 // 3
            line = far.line_far(rule, "b", 60, row, column)
            digits = far.digits_far(rule, 60, row, column)
            self.yes(far.line_holds, rule, (line, digits))
            self.assertEqual(far.place_far(rule, digits), (row, column))
            found = far.first_far(rule, "b", 60, "a")
            self.assertEqual(far.tile_far(rule, "b", 60, *found), "a")

    def test_shares_and_laps(self):
        for rule in (CHESS, FLAT, GREAT, *GREAT_RULES):
            told = shares.still_shares(rule)
            if told is not None:
                self.yes(shares.shares_hold, rule, told)
        for rule in (STRIPE, LONELY, PARTED, TURNS):
            self.yes(families.unmixed_holds, rule, families.why_unmixed(rule))

    def test_ways_and_papers(self):
        for floor in (("bb",), ("abba",), ("aaa",), ("a", "b"), ("babaabab",)):
            way, paper = ways.way_of(STRIPE, "a", floor), ways.never_of(STRIPE, "a", floor)
            if way is None:
                self.yes(ways.never_holds, STRIPE, "a", floor, paper)
            else:
                self.yes(ways.way_holds, STRIPE, "a", floor, way)
                growings, row, column = ways.way_place(STRIPE, way)
                self.assertEqual(far.cut_far(STRIPE, "a", growings, row, column, 1, len(floor[0])), floor)

    def test_floors_without_end(self):
        for rule in (CHESS, STRIPE, GREAT):
            for signs in ("x", "xy", "xxxxxy"):
                painted = (rule, "a", paint_of(rule, signs))
                small = least.least_floor(painted)
                self.yes(least.least_holds, painted, small)
                self.yes(alike.alike_holds, painted, small, alike.alike_of(painted, small))
                other = (rule, "c", paint_of(rule, signs))
                place = alike.first_unlike(painted, other)
                if place is None:
                    self.yes(alike.alike_holds, painted, other, alike.alike_of(painted, other))
                else:
                    self.assertNotEqual(alike.sign_at(painted, *place), alike.sign_at(other, *place))

    def test_cuts_and_texts(self):
        cut = alike.still_cut(GREAT, "a", FAR - 1, FAR - 1, 64, 64)
        self.yes(floors.floor_good, cut)
        self.assertEqual(texts.floor_read(texts.floor_shown(cut)), cut)
        self.assertEqual(floors.turned_floor(floors.turned_floor(cut)), cut)
        self.assertEqual(rules.grown_often(GREAT, cut, 0), cut)
        self.assertEqual(texts.rule_read(texts.rule_shown(GREAT)), GREAT)
        self.assertEqual(sum(many for tile, many in counts.tile_counts(GREAT, "a", 1000)), 16 ** 1000)


if __name__ == "__main__":
    unittest.main()
