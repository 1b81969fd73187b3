"""10.1: floors and rules as texts, and 0.2, 0.3, 0.4 as far as they speak of them."""

import copy
import unittest

from samples import (
    ALPHABET, CHESS, FLAT, FLOORS, GREAT_RULES, MANY_RULES, SIGNS, SIZES, STRIPE, TOWER, Asker, even_floor, even_rule,
    odd_things,
)
from tilegrow.errors import NoText
from tilegrow.far import cut_far
from tilegrow.rules import rule_good
from tilegrow.texts import floor_read, floor_shown, rule_read, rule_shown

CHESS_TEXT = "rule 2 2\na ab/ba\nb cc/ab\nc ca/bb"
ODD_SIGNS = SIGNS + ["\n", "\t", "%"]


class TextAsker(Asker):
    def no_text(self, row, asked, thing):
        error = self.refused(NoText, asked, thing)
        self.assertEqual(error.row, row, thing)
        self.assertIs(error.row.__class__, int)


class FloorTextTest(TextAsker):
    def test_ordinary_floors(self):
        self.assertEqual(self.told(floor_shown, ("ab", "ba")), "ab/ba")
        self.assertEqual(self.told(floor_shown, ("a",)), "a")
        self.assertEqual(self.told(floor_shown, ("abc",)), "abc")
        self.assertEqual(self.told(floor_shown, ("a", "b", "c")), "a/b/c")
        self.assertEqual(self.told(floor_read, "ab/ba"), ("ab", "ba"))
        self.assertEqual(self.told(floor_read, "z"), ("z",))
        self.assertEqual(self.told(floor_read, "x/y"), ("x", "y"))

    def test_what_is_shown_is_read_again(self):
        greatest = cut_far(CHESS, "a", 60, 10 ** 17, 10 ** 16, 64, 64)
        for floor in FLOORS + [greatest, even_floor(64, 64), even_floor(64, 1), even_floor(1, 64), (ALPHABET,)]:
            text = self.told(floor_shown, floor)
            self.assertEqual(text.split("/"), list(floor))
            self.assertEqual(self.told(floor_read, text), floor)
            self.assertEqual(floor_shown(floor_read(text)), text)

    def test_no_text(self):
        for thing in odd_things():
            if not isinstance(thing, str):
                self.no_text(0, floor_read, thing)
        for thing in (("ab", "ba"), ["ab/ba"], ("ab/ba",), {"ab/ba": "ab/ba"}, None, 5, True):
            self.no_text(0, floor_read, thing)

    def test_no_floor(self):
        for text in ("", "/", "//", "a/", "/a", "a//a", "ab/a", "a/ab", "ab/ba/", "A", "aB", "a b", " a", "a ", "a1",
                     "ab\nba", "ab/ba\n", "\n", "a\\b", "a|b", "ab/bA", "1", "a" * 65, "/".join("a" * 65),
                     "ab/" + "b" * 65, "ab /ba", "ab/ ba", "ab-ba", "~", " "):
            self.no_text(1, floor_read, text)

    def test_each_odd_sign(self):
        for sign in ODD_SIGNS:
            if sign not in ALPHABET:
                for text in (sign, "a" + sign, sign + "a", "ab/b" + sign, "a" + sign + "a/aaa"):
                    self.no_text(1, floor_read, text)

    def test_sizes_at_their_edges(self):
        self.assertEqual(self.told(floor_read, "a" * 64), ("a" * 64,))
        self.assertEqual(self.told(floor_read, "/".join("a" * 64)), ("a",) * 64)
        self.no_text(1, floor_read, "/".join(["a" * 65] * 3))
        self.no_text(1, floor_read, "/".join(["ab"] * 65))


class RuleTextTest(TextAsker):
    def test_ordinary_rules(self):
        self.assertEqual(self.told(rule_shown, CHESS), CHESS_TEXT)
        self.assertEqual(self.told(rule_shown, STRIPE), "rule 1 2\na ab\nb ba\nc cc")
        self.assertEqual(self.told(rule_shown, TOWER), "rule 3 1\na a/b/c\nb c/c/a\nc b/a/a")
        self.assertEqual(self.told(rule_read, CHESS_TEXT), CHESS)
        self.assertEqual(self.told(rule_read, "rule 4 1\nq q/q/q/q"), (4, 1, (("q", ("q", "q", "q", "q")),)))

    def test_what_is_shown_is_read_again(self):
        for rule in MANY_RULES + GREAT_RULES + [even_rule(4, 4, ALPHABET)] + [even_rule(*sizes) for sizes in SIZES]:
            text = self.told(rule_shown, rule)
            rows = text.split("\n")
            self.assertEqual(rows[0], "rule " + str(rule[0]) + " " + str(rule[1]))
            self.assertEqual(rows[1:], [tile + " " + "/".join(block) for tile, block in rule[2]])
            again = self.told(rule_read, text)
            self.assertEqual(again, rule)
            self.assertTrue(rule_good(again))

    def test_no_text(self):
        for thing in odd_things() + [CHESS, [CHESS_TEXT], (CHESS_TEXT,), CHESS_TEXT.split("\n"), {CHESS_TEXT: 1}]:
            if not isinstance(thing, str):
                self.no_text(0, rule_read, thing)

    def test_texts_of_odd_things(self):
        for thing in odd_things():
            if isinstance(thing, str):
                self.no_text(1, rule_read, thing)
                self.no_text(1, rule_read, thing + "\na aa")
                self.no_text(2, rule_read, "rule 1 2\n" + thing)
                self.no_text(3, rule_read, "rule 1 2\na aa\n" + thing)

    def test_the_first_row(self):
        for row in ("", "rule", "rule 2", "rule 2 2 2", "rule 2 2 ", " rule 2 2", "rule  2 2", "rule 2  2", "Rule 2 2",
                    "rule2 2", "rules 2 2", "2 2", "rule a b", "rule 2 b", "rule b 2", "rule -2 2", "rule +2 2",
                    "rule 2.0 2", "rule 2 2.", "rule 0x2 2", "rule 2 two", "rule\t2 2", "rule 2,2", "rule 2_ 2",
                    "rule 1_0 2", "a ab/ba", "rule 2 2\r", "rule  ", "rule 2 "):
            for behind in ("\na aa/aa", "", "\n", "\nnothing"):
                self.no_text(1, rule_read, row + behind)

    def test_sizes_that_are_none(self):
        for sizes in ("1 1", "0 2", "2 0", "5 2", "2 5", "0 0", "10 10", "4 40", "5 5", "9" * 40 + " 2",
                      "2 " + "9" * 40):
            self.no_text(1, rule_read, "rule " + sizes + "\na aa/aa")
            self.no_text(1, rule_read, "rule " + sizes)

    def test_numbers(self):
        for number in ("02", "002", "0" * 39 + "2", "0" * 40 + "2", "00", "2" * 41, "1" + "0" * 40, "9" * 5000):
            self.no_text(1, rule_read, "rule " + number + " 2\na aa/aa")
            self.no_text(1, rule_read, "rule 2 " + number + "\na aa/aa")

    def test_numbers_in_other_signs(self):
        # Signs that Python takes for figures, too.
        for number in ("\u0662", "\u00b2", "\uff12"):
            self.no_text(1, rule_read, "rule " + number + " 2\na aa/aa")

    def test_blanks(self):
        for row in (" a ab/ba", "a  ab/ba", "a ab/ba ", "a ab/ba  ", "a ab /ba", "a ab/ ba", " ", "  ", "a", "a ",
                    " a", "aab/ba", "a\tab/ba"):
            self.no_text(2, rule_read, "rule 2 2\n" + row + "\nb bb/bb")
            self.no_text(3, rule_read, "rule 2 2\na aa/aa\n" + row)

    def test_rows_that_are_not_so_written(self):
        for row in ("", "A aa/aa", "1 aa/aa", "ab aa/aa", "b aa/aA", "b aa-aa", "b aa/aa/", "b /aa", "b /", "b bb/bb b",
                    "rule 2 2", "b b b/bb", "~ bb/bb", "b bb//bb", "b " + "b" * 65 + "/" + "b" * 65):
            self.no_text(3, rule_read, "rule 2 2\na aa/aa\n" + row)
            self.no_text(3, rule_read, "rule 2 2\na aa/aa\n" + row + "\nc cc/cc")
            self.no_text(3, rule_read, "rule 2 2\na zz/zz\n" + row + "\nnothing")

    def test_a_line_feed_behind_the_last_row(self):
        self.no_text(5, rule_read, CHESS_TEXT + "\n")
        self.no_text(1, rule_read, "\n" + CHESS_TEXT)
        self.no_text(3, rule_read, CHESS_TEXT.replace("\nb", "\n\nb"))

    def test_a_tile_that_is_not_greater_than_the_one_ahead(self):
        self.no_text(3, rule_read, "rule 1 2\na aa\na aa")
        self.no_text(3, rule_read, "rule 1 2\nb bb\na aa")
        self.no_text(4, rule_read, "rule 1 2\na aa\nc cc\nb bb")
        self.no_text(4, rule_read, "rule 1 2\na aa\nb bb\na aa")
        self.assertEqual(self.told(rule_read, "rule 1 2\na aa\nz zz"), (1, 2, (("a", ("aa",)), ("z", ("zz",)))))

    def test_a_block_of_another_size(self):
        for block in ("a", "aa", "aaa", "a/a", "aa/aa/aa", "aaa/aaa", "a/a/a", "aa/a", "a/aa", "aaaa"):
            self.no_text(2, rule_read, "rule 2 2\na " + block)
            self.no_text(3, rule_read, "rule 2 2\na aa/aa\nb " + block + "\nc")
        for high, wide in SIZES:
            for other in SIZES:
                text = "rule " + str(high) + " " + str(wide) + "\na " + "/".join(["a" * other[1]] * other[0])
                if other == (high, wide):
                    self.assertEqual(self.told(rule_read, text), even_rule(high, wide))
                else:
                    self.no_text(2, rule_read, text)

    def test_one_row_alone(self):
        for high, wide in SIZES:
            self.no_text(2, rule_read, "rule " + str(high) + " " + str(wide))
        self.no_text(2, rule_read, "rule 2 2\n")

    def test_a_tile_without_a_row(self):
        self.no_text(2, rule_read, "rule 1 2\na ab")
        self.no_text(3, rule_read, "rule 1 2\na aa\nb bz")
        self.no_text(3, rule_read, "rule 1 2\na aa\nb zb\nc zz")
        self.no_text(2, rule_read, "rule 1 2\na ac\nb bz")
        self.no_text(26, rule_read, "rule 1 2" + "".join("\n" + tile + " aa" for tile in ALPHABET[:24]) + "\ny yz")
        rows = "".join("\n" + tile + " aa" for tile in ALPHABET[1:])
        self.no_text(2, rule_read, "rule 1 2" + rows)

    def test_the_order_where_several_are_due(self):
        self.no_text(1, rule_read, "rule 1 1\na ab\nb")
        # A row that is not so written goes ahead of a tile without a row, though this stands ahead of it.
        self.no_text(3, rule_read, "rule 1 2\na az\nb b")
        self.no_text(4, rule_read, "rule 1 2\na az\nb bz\nb bb")
        self.no_text(3, rule_read, "rule 1 2\na az\nb bbb\nb bb\na")

    def test_26_tiles(self):
        text = "rule 4 4" + "".join(
            "\n" + tile + " " + "/".join([ALPHABET[number:number + 4].ljust(4, "a")] * 4)
            for number, tile in enumerate(ALPHABET)
        )
        rule = self.told(rule_read, text)
        self.assertTrue(rule_good(rule))
        self.assertEqual(len(rule[2]), 26)
        self.no_text(28, rule_read, text + "\nz zzzz/zzzz/zzzz/zzzz")

    def test_each_sign_put_in_somewhere(self):
        text = "rule 1 2\na ab\nb ba"
        for place in range(len(text) + 1):
            for sign in ODD_SIGNS:
                changed = text[:place] + sign + text[place:]
                row = changed[:place + 1].count("\n") + 1 - (1 if sign == "\n" else 0)
                error = self.refused(NoText, rule_read, changed)
                self.assertIn(error.row, (row, row + 1) if sign == "\n" else (row,), changed)


class SameAnswerTest(TextAsker):
    def test_whatever_was_asked_in_between(self):
        questions = [
            (floor_shown, ("ab", "ba")), (floor_read, "ab/ba"), (rule_shown, FLAT), (rule_read, CHESS_TEXT),
            (rule_shown, CHESS), (floor_read, "a"),
        ]
        before = copy.deepcopy(questions)
        first = [asked(*handed) for asked, *handed in questions]
        again = [asked(*handed) for asked, *handed in reversed(questions)]
        self.assertEqual(again, first[::-1])
        self.assertEqual(questions, before)


if __name__ == "__main__":
    unittest.main()
