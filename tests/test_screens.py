import copy
import unittest

from screenlines.errors import NoRoom, NoScreen
from screenlines.least import least, least_cost
from screenlines.orders import all_done, done
from screenlines.screens import are_rows, blank, is_screen, shown, unlike_spots
from tests.things import Raises, any_things

SCREEN = (3, ("abc", " b ", "   "), (1, 2))


class TestIsScreen(unittest.TestCase):
    def test_ordinary(self):
        self.assertIs(is_screen(SCREEN), True)

    def test_bounds_of_the_width(self):
        for width in (1, 2, 39, 40):
            self.assertIs(is_screen((width, ("x" * width,), (0, 0))), True, width)
        for width in (0, 41, -1, 100):
            self.assertIs(is_screen((width, ("x" * max(width, 0),), (0, 0))), False, width)

    def test_bounds_of_the_rows(self):
        for many in (1, 2, 11, 12):
            self.assertIs(is_screen((2, ("ab",) * many, (0, 0))), True, many)
        for many in (0, 13, 40):
            self.assertIs(is_screen((2, ("ab",) * many, (0, 0))), False, many)

    def test_rows_of_another_width(self):
        for rows in (("ab", "abc"), ("abc", "abcd"), ("abc", ""), ("ab",), ("abcd",)):
            self.assertIs(is_screen((3, rows, (0, 0))), False, rows)

    def test_bounds_of_the_place(self):
        for place in ((0, 0), (0, 3), (2, 0), (2, 3)):
            self.assertIs(is_screen((3, SCREEN[1], place)), True, place)
        for place in ((0, 4), (2, 4), (3, 0), (3, 3), (-1, 0), (0, -1)):
            self.assertIs(is_screen((3, SCREEN[1], place)), False, place)

    def test_place_of_the_widest_and_highest(self):
        rows = ("x" * 40,) * 12
        self.assertIs(is_screen((40, rows, (11, 40))), True)
        self.assertIs(is_screen((40, rows, (12, 40))), False)
        self.assertIs(is_screen((40, rows, (11, 41))), False)

    def test_signs_from_the_blank_to_the_tilde(self):
        for code in range(0, 300):
            plain = 32 <= code <= 126
            self.assertIs(is_screen((3, ("a" + chr(code) + "b",), (0, 0))), plain, code)

    def test_truths_are_no_whole_numbers(self):
        self.assertIs(is_screen((1, ("a", "b"), (1, 1))), True)
        for thing in ((True, ("a", "b"), (1, 1)), (1, ("a", "b"), (True, 1)), (1, ("a", "b"), (1, True)),
                      (1, ("a", "b"), (False, 0)), (1, ("a", "b"), (0, False))):
            self.assertIs(is_screen(thing), False, thing)

    def test_lists_where_tuples_are_due(self):
        for thing in ([3, SCREEN[1], (1, 2)], (3, list(SCREEN[1]), (1, 2)), (3, SCREEN[1], [1, 2])):
            self.assertIs(is_screen(thing), False, thing)

    def test_other_parts(self):
        for thing in (SCREEN[:2], SCREEN + (0,), (3, SCREEN[1], (1,)), (3, SCREEN[1], (1, 2, 0)), (3, SCREEN[1], None),
                      (3, "abc", (0, 0)), (1, "abc", (0, 0)), (3, None, (0, 0)), (3, ("abc", None), (0, 0)),
                      (3, ("abc", 3), (0, 0)), (3, (("a", "b", "c"),), (0, 0)), (3, (["a", "b", "c"],), (0, 0)),
                      ("3", SCREEN[1], (0, 0)), (None, SCREEN[1], (0, 0)), (3, SCREEN[1], ("1", 2)),
                      (3, SCREEN[1], (1, None)), (3, SCREEN[1], 1), (3, SCREEN[1], "12"), ([3], SCREEN[1], (0, 0))):
            self.assertIs(is_screen(thing), False, thing)

    def test_any_thing(self):
        for thing in any_things():
            self.assertIs(is_screen(thing), False, thing)


class TestBlank(unittest.TestCase, Raises):
    def test_sizes(self):
        self.assertEqual(blank(3, 2), (3, ("   ", "   "), (0, 0)))
        for width in range(1, 41):
            for many in range(1, 13):
                screen = blank(width, many)
                self.assertEqual(screen, (width, (" " * width,) * many, (0, 0)))
                self.assertIs(is_screen(screen), True)

    def test_other_sizes(self):
        for width, many in ((0, 1), (41, 1), (1, 0), (1, 13), (-1, 1), (1, -1), (0, 0), (41, 13)):
            self.refuses(NoRoom, blank, width, many)

    def test_any_thing(self):
        for thing in any_things():
            whole = isinstance(thing, int) and not isinstance(thing, bool)
            if not (whole and 1 <= thing <= 40):
                self.refuses(NoRoom, blank, thing, 1)
            if not (whole and 1 <= thing <= 12):
                self.refuses(NoRoom, blank, 1, thing)


class TestShown(unittest.TestCase):
    def test_without_blanks_at_the_ends(self):
        self.assertEqual(shown(SCREEN), ["abc", " b", ""])
        self.assertEqual(shown(blank(40, 12)), [""] * 12)
        self.assertEqual(shown((4, ("a  b", "  ~ "), (0, 4))), ["a  b", "  ~"])

    def test_a_new_list_each_time(self):
        first = shown(SCREEN)
        self.assertIsInstance(first, list)
        first[0] = "other"
        first.append("more")
        self.assertEqual(shown(SCREEN), ["abc", " b", ""])

    def test_its_rows_are_shown_already(self):
        self.assertEqual(unlike_spots(SCREEN, shown(SCREEN)), [])


class TestNoScreen(unittest.TestCase, Raises):
    def test_all_that_take_a_screen(self):
        wrong = any_things() + [list(SCREEN), (3, SCREEN[1], (3, 0)), (True, ("a",), (0, 0)), SCREEN[:2]]
        for thing in wrong:
            self.refuses(NoScreen, shown, thing)
            self.refuses(NoScreen, are_rows, thing, [])
            self.refuses(NoScreen, are_rows, thing, None)
            self.refuses(NoScreen, unlike_spots, thing, [])
            self.refuses(NoScreen, done, thing, ("wipe",))
            self.refuses(NoScreen, all_done, thing, [])
            self.refuses(NoScreen, least, thing, [])
            self.refuses(NoScreen, least_cost, thing, [])

    def test_ahead_of_the_others(self):
        for thing in (None, 0, list(SCREEN), (3, SCREEN[1], (3, 0))):
            self.refuses(NoScreen, done, thing, None)
            self.refuses(NoScreen, done, thing, ("say", "x" * 40))
            self.refuses(NoScreen, all_done, thing, None)
            self.refuses(NoScreen, all_done, thing, [("say", "x" * 40), ("nothing",)])
            self.refuses(NoScreen, least, thing, None)


class TestRows(unittest.TestCase, Raises):
    def test_such_rows(self):
        for rows in ([], [""], ["abc"], ["a", ""], ["", "", ""], ["abc", "abc", "abc"], ["   ", "~~~", " b"]):
            self.assertIs(are_rows(SCREEN, rows), True, rows)

    def test_too_many(self):
        self.assertIs(are_rows(SCREEN, ["", "", "", ""]), False)
        self.assertIs(are_rows(blank(1, 12), ["a"] * 12), True)
        self.assertIs(are_rows(blank(1, 12), ["a"] * 13), False)

    def test_too_wide(self):
        self.assertIs(are_rows(SCREEN, ["", "abcd"]), False)
        self.assertIs(are_rows(SCREEN, ["abc "]), False)
        self.assertIs(are_rows(blank(40, 1), ["a" * 40]), True)
        self.assertIs(are_rows(blank(40, 1), ["a" * 41]), False)

    def test_no_plain_texts(self):
        for rows in (["a\n"], ["\t"], ["\x7f"], ["\u00e9"], [None], [0], [True], [["a"]], [("a",)], ["a", None]):
            self.assertIs(are_rows(SCREEN, rows), False, rows)

    def test_no_list(self):
        for rows in (("abc",), (), "abc", "", None, 0, True, {"a": "b"}):
            self.assertIs(are_rows(SCREEN, rows), False, rows)

    def test_any_thing(self):
        for thing in any_things():
            expected = (isinstance(thing, list) and len(thing) <= 3 and all(
                isinstance(row, str) and len(row) <= 3 and row.isascii() and row.isprintable() for row in thing))
            self.assertIs(are_rows(SCREEN, thing), expected, thing)


class TestUnlikeSpots(unittest.TestCase, Raises):
    def test_ordinary(self):
        self.assertEqual(unlike_spots(SCREEN, ["abc", " b"]), [])
        self.assertEqual(unlike_spots(SCREEN, ["xbc", " b"]), [(0, 0)])
        self.assertEqual(unlike_spots(SCREEN, ["ABC", "b", "  z"]), [(0, 0), (0, 1), (0, 2), (1, 0), (1, 1), (2, 2)])

    def test_rows_that_are_not_told_are_blank(self):
        self.assertEqual(unlike_spots(SCREEN, []), [(0, 0), (0, 1), (0, 2), (1, 1)])
        self.assertEqual(unlike_spots(SCREEN, ["abc"]), [(1, 1)])

    def test_shorter_rows_have_blanks_at_their_ends(self):
        self.assertEqual(unlike_spots(SCREEN, ["a", " b"]), [(0, 1), (0, 2)])
        self.assertEqual(unlike_spots(SCREEN, ["", " b"]), [(0, 0), (0, 1), (0, 2)])

    def test_rising_and_whole(self):
        spots = unlike_spots((40, ("x" * 40,) * 12, (0, 0)), [])
        self.assertEqual(spots, [(row, column) for row in range(12) for column in range(40)])

    def test_the_place_does_not_matter(self):
        self.assertEqual(unlike_spots((3, SCREEN[1], (0, 0)), ["a"]), unlike_spots(SCREEN, ["a"]))

    def test_what_are_no_such_rows(self):
        for thing in any_things() + [("abc",), ["abcd"], ["", "", "", ""], ["a\n"]]:
            if are_rows(SCREEN, thing):
                self.assertIsInstance(unlike_spots(SCREEN, thing), list)
            else:
                self.refuses(NoScreen, unlike_spots, SCREEN, thing)

    def test_nothing_is_kept_or_changed(self):
        rows = ["a", ""]
        before = copy.deepcopy(rows)
        first = unlike_spots(SCREEN, rows)
        self.assertEqual(rows, before)
        first.clear()
        self.assertEqual(unlike_spots(SCREEN, rows), [(0, 1), (0, 2), (1, 1)])


if __name__ == "__main__":
    unittest.main()
