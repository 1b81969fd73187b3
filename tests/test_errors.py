"""0.4 and the interface: the error classes and their fields."""

import unittest

from samples import odd_things
from tilegrow.errors import (
    FloorError, NoFloor, NoNumber, NoPlace, NoRow, NoRule, NoText, NoTile, TooGreat, Unlike,
)

PLAIN = [NoFloor, NoPlace, NoNumber, NoRow, Unlike]
WITH_FIELDS = [NoTile, NoRule, NoText, TooGreat]


class ClassesTest(unittest.TestCase):
    def test_floor_error_stands_straight_under_value_error(self):
        self.assertEqual(FloorError.__bases__, (ValueError,))

    def test_each_class_stands_straight_under_floor_error(self):
        for kind in PLAIN + WITH_FIELDS:
            with self.subTest(kind=kind):
                self.assertEqual(kind.__bases__, (FloorError,))

    def test_none_stands_under_another_one(self):
        for kind in PLAIN + WITH_FIELDS:
            for other in PLAIN + WITH_FIELDS:
                if kind is not other:
                    self.assertFalse(issubclass(kind, other), (kind, other))

    def test_all_are_classes_of_their_own(self):
        self.assertEqual(len({FloorError, ValueError} | set(PLAIN + WITH_FIELDS)), 11)

    def test_names_are_those_of_the_interface(self):
        names = [kind.__name__ for kind in [FloorError] + PLAIN + WITH_FIELDS]
        self.assertEqual(names, ["FloorError", "NoFloor", "NoPlace", "NoNumber", "NoRow", "Unlike",
                                 "NoTile", "NoRule", "NoText", "TooGreat"])


class MakingTest(unittest.TestCase):
    def test_plain_ones_are_made_of_nothing_and_caught_by_each_name(self):
        for kind in PLAIN:
            for caught in (kind, FloorError, ValueError):
                with self.subTest(kind=kind, caught=caught):
                    with self.assertRaises(caught):
                        raise kind()

    def test_those_with_fields_are_caught_by_each_name(self):
        for error in (NoTile("a"), NoRule(3), NoText(1), TooGreat(65, 64)):
            for caught in (error.__class__, FloorError, ValueError):
                with self.subTest(error=error, caught=caught):
                    with self.assertRaises(caught) as met:
                        raise error
                    self.assertIs(met.exception, error)

    def test_fields_are_set_when_made(self):
        self.assertEqual(NoTile("q").tile, "q")
        self.assertEqual(NoRule(-1).number, -1)
        self.assertEqual(NoRule(25).number, 25)
        self.assertEqual(NoText(0).row, 0)
        self.assertEqual(NoText(7).row, 7)
        error = TooGreat(128, 64)
        self.assertEqual((error.many, error.most), (128, 64))

    def test_fields_go_by_the_names_of_the_interface(self):
        self.assertEqual(NoTile(tile="q").tile, "q")
        self.assertEqual(NoRule(number=2).number, 2)
        self.assertEqual(NoText(row=4).row, 4)
        error = TooGreat(most=4, many=6)
        self.assertEqual((error.many, error.most), (6, 4))

    def test_a_great_number_is_kept_as_it_is(self):
        self.assertEqual(TooGreat(4 ** 5000, 64).many, 4 ** 5000)

    def test_no_tile_keeps_whatever_was_handed_in(self):
        for thing, again in zip(odd_things(), odd_things()):
            kept = NoTile(thing).tile
            self.assertEqual(kept, again)
            self.assertIs(kept.__class__, again.__class__)

    def test_two_errors_have_nothing_in_common(self):
        first = NoTile("a")
        second = NoTile("b")
        self.assertEqual((first.tile, second.tile), ("a", "b"))


if __name__ == "__main__":
    unittest.main()
