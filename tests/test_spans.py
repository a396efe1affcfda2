import copy
import itertools
import random
import unittest

from screenlines.errors import NoScreen, NoText
from screenlines.screens import are_rows, blank, unlike_spots
from screenlines.spans import alike_rows, of_runs, runs_of, scroll_by, spans
from screenlines.windows import scrolled
from tests.things import Raises, any_things, plain, some_screen, things_but

SCREEN = (5, ("abcde", "  x  ", "     "), (1, 2))
NO_SCREENS = (list(SCREEN), (5, SCREEN[1], (3, 0)), (True, ("a",), (0, 0)), SCREEN[:2], (41, ("x" * 41,), (0, 0)), (1, ("\n",), (0, 0)))


def screen_of(*rows):
    return len(rows[0]), rows, (0, 0)


class TestSpans(unittest.TestCase, Raises):
    def test_ordinary(self):
        self.assertEqual(spans(SCREEN, ["abcde", "  x"]), [])
        self.assertEqual(spans(SCREEN, ["aBCde", "  x"]), [(0, 1, 2)])
        self.assertEqual(spans(SCREEN, ["AbCDe", "  x"]), [(0, 0, 1), (0, 2, 2)])
        self.assertEqual(spans(SCREEN, ["ABCDE", "  x", "12345"]), [(0, 0, 5), (2, 0, 5)])

    def test_rows_that_are_not_told(self):
        self.assertEqual(spans(SCREEN, []), [(0, 0, 5), (1, 2, 1)])
        self.assertEqual(spans(SCREEN, ["ab"]), [(0, 2, 3), (1, 2, 1)])

    def test_not_over_the_end_of_a_row(self):
        self.assertEqual(spans(SCREEN, ["abcdX", "X x", ""]), [(0, 4, 1), (1, 0, 1)])
        self.assertEqual(spans((1, ("a", "a", "a"), (0, 0)), []), [(0, 0, 1), (1, 0, 1), (2, 0, 1)])

    def test_the_greatest(self):
        self.assertEqual(spans((40, ("x" * 40,) * 12, (11, 40)), []), [(row, 0, 40) for row in range(12)])

    def test_all_rows_of_some_signs(self):
        for old, new in itertools.product(["".join(text) for text in itertools.product("ab ", repeat=4)], repeat=2):
            self.holds(screen_of(old), [new])

    def test_screens_of_all_sizes(self):
        chance = random.Random(91)
        for turn in range(200):
            width, many = chance.randint(1, 40), chance.randint(1, 12)
            screen = some_screen(chance, width, many, "ab ")
            rows = ["".join(chance.choice("ab ") for column in range(chance.randint(0, width))) for row in range(chance.randint(0, many))]
            self.holds(screen, rows)

    def holds(self, screen, rows):
        """Holds what is told against the spots: all of them, and none beside a stretch's ends."""
        told = spans(screen, rows)
        spots = unlike_spots(screen, rows)
        self.assertEqual([(row, left + step) for row, left, many in told for step in range(many)], spots)
        for row, left, many in told:
            self.assertGreaterEqual(many, 1)
            self.assertNotIn((row, left - 1), spots)
            self.assertNotIn((row, left + many), spots)
        self.assertEqual(told, sorted(set(told)))

    def test_no_screen(self):
        for thing in any_things() + list(NO_SCREENS):
            self.refuses(NoScreen, spans, thing, [])
            self.refuses(NoScreen, spans, thing, None)
            if not are_rows(SCREEN, thing):
                self.refuses(NoScreen, spans, SCREEN, thing)
        for thing in (["abcdef"], ["", "", "", ""], ("abcde",), ["a\n"], [None], "abcde"):
            self.refuses(NoScreen, spans, SCREEN, thing)

    def test_a_new_list_and_nothing_changed(self):
        rows = ["a", ""]
        before = copy.deepcopy(rows)
        first = spans(SCREEN, rows)
        self.assertIsInstance(first, list)
        first.clear()
        self.assertEqual(rows, before)
        self.assertEqual(spans(SCREEN, rows), [(0, 1, 4), (1, 2, 1)])


class OfTwoScreens(Raises):
    def refuses_what_are_not_so(self, function):
        one = screen_of("ab", "cd")
        for thing in any_things() + list(NO_SCREENS):
            self.refuses(NoScreen, function, thing, one)
            self.refuses(NoScreen, function, one, thing)
            self.refuses(NoScreen, function, thing, thing)
        for other in (screen_of("a", "c"), screen_of("abc", "cde"), screen_of("ab"), screen_of("ab", "cd", "ef"), screen_of("abcd"),
                      screen_of("a", "b", "c", "d")):
            self.refuses(NoScreen, function, one, other)
            self.refuses(NoScreen, function, other, one)


class TestAlikeRows(unittest.TestCase, OfTwoScreens):
    def test_ordinary(self):
        one, other = screen_of("ab", "cd", "  ", "ef"), screen_of("ab", "c ", "  ", "ef")
        self.assertEqual(alike_rows(one, other), [0, 2, 3])
        self.assertEqual(alike_rows(one, one), [0, 1, 2, 3])
        self.assertEqual(alike_rows(screen_of("ab"), screen_of("ba")), [])
        self.assertEqual(alike_rows(screen_of("ab", "cd"), screen_of("cd", "ab")), [])

    def test_the_place_does_not_matter(self):
        one = screen_of("ab", "cd")
        self.assertEqual(alike_rows(one, one[:2] + ((1, 2),)), [0, 1])

    def test_blanks_at_the_ends_and_ahead_matter(self):
        self.assertEqual(alike_rows(screen_of("a ", " a"), screen_of(" a", " a")), [1])

    def test_all_of_two_signs(self):
        for many in range(1, 5):
            for one, other in itertools.product(itertools.product("a ", repeat=many), repeat=2):
                wanted = [number for number in range(many) if one[number] == other[number]]
                self.assertEqual(alike_rows(screen_of(*one), screen_of(*other)), wanted)

    def test_the_greatest(self):
        one = some_screen(random.Random(92), 40, 12, "ab")
        self.assertEqual(alike_rows(one, one), list(range(12)))
        self.assertEqual(alike_rows(one, blank(40, 12)), [])

    def test_no_screen_also_where_they_are_not_so(self):
        self.refuses_what_are_not_so(alike_rows)

    def test_a_new_list_each_time(self):
        one = screen_of("ab", "cd")
        first = alike_rows(one, one)
        self.assertIsInstance(first, list)
        first.clear()
        self.assertEqual(alike_rows(one, one), [0, 1])


def alike_by_trial(one, other, by):
    """How many rows are alike behind a scroll, by the words of the document."""
    many = len(one[1])
    return sum(1 for number in range(many)
               if 0 <= number + by < many and other[1][number].strip() and one[1][number + by] == other[1][number])


def scroll_by_trial(one, other):
    many = len(one[1])
    most = max(alike_by_trial(one, other, by) for by in range(1 - many, many))
    for near in range(many):
        for by in (-near, near):
            if alike_by_trial(one, other, by) == most:
                return by


class TestScrollBy(unittest.TestCase, OfTwoScreens):
    def test_ordinary(self):
        one = screen_of("aa", "bb", "cc", "dd")
        self.assertEqual(scroll_by(one, one), 0)
        self.assertEqual(scroll_by(one, screen_of("bb", "cc", "dd", "ee")), 1)
        self.assertEqual(scroll_by(one, screen_of("zz", "aa", "bb", "cc")), -1)
        self.assertEqual(scroll_by(one, screen_of("dd", "xx", "yy", "zz")), 3)
        self.assertEqual(scroll_by(one, screen_of("xx", "yy", "zz", "aa")), -3)

    def test_what_was_scrolled(self):
        one = screen_of("aa", "bb", "cc", "dd")
        for by in range(-3, 4):
            self.assertEqual(scroll_by(one, scrolled(one, by)), by)

    def test_nothing_alike(self):
        self.assertEqual(scroll_by(screen_of("aa", "bb"), screen_of("cc", "dd")), 0)
        self.assertEqual(scroll_by(screen_of("aa", "bb"), blank(2, 2)), 0)
        self.assertEqual(scroll_by(blank(2, 2), screen_of("aa", "bb")), 0)

    def test_of_several_the_one_nearest_to_0(self):
        self.assertEqual(scroll_by(screen_of("a", "a", "a", "b"), screen_of("b", "x", "x", "a")), -1)
        self.assertEqual(scroll_by(screen_of("a", "b", "b", "x"), screen_of("b", "y", "y", "y")), 1)
        self.assertEqual(scroll_by(screen_of("a", "a", "a"), screen_of("a", "b", "c")), 0)

    def test_of_two_as_near_that_below_0(self):
        self.assertEqual(scroll_by(screen_of("x", "a", "y"), screen_of("a", "z", "a")), -1)
        self.assertEqual(scroll_by(screen_of("a", "b", "c"), screen_of("c", "x", "a")), -2)

    def test_blank_rows_of_the_other_do_not_count(self):
        self.assertEqual(scroll_by(screen_of(" ", " ", " ", "a"), screen_of(" ", " ", "a", " ")), 1)
        self.assertEqual(scroll_by(screen_of(" ", " ", "a", " "), screen_of("a", " ", " ", " ")), 2)

    def test_rows_of_any_other_sign_do_count(self):
        for code in range(33, 127):
            sign = chr(code)
            self.assertEqual(scroll_by(screen_of("  ", " " + sign), screen_of(" " + sign, "  ")), 1, sign)
            self.assertEqual(scroll_by(screen_of(sign * 2, "  "), screen_of("  ", sign * 2)), -1, sign)

    def test_one_row_alone(self):
        self.assertEqual(scroll_by(screen_of("a"), screen_of("a")), 0)
        self.assertEqual(scroll_by(screen_of("a"), screen_of("b")), 0)
        self.assertEqual(scroll_by(screen_of("a"), screen_of(" ")), 0)

    def test_the_greatest(self):
        rows = tuple(sign * 40 for sign in "abcdefghijkl")
        one = screen_of(*rows)
        self.assertEqual(scroll_by(one, screen_of(*(("z" * 40,) * 11 + ("a" * 40,)))), -11)
        self.assertEqual(scroll_by(one, screen_of(*(("l" * 40,) + ("z" * 40,) * 11))), 11)

    def test_the_place_does_not_matter(self):
        one, other = screen_of("a", "b", "c"), screen_of("b", "c", "d")
        for place in ((0, 0), (2, 1), (1, 0)):
            self.assertEqual(scroll_by(one[:2] + (place,), other), 1)
            self.assertEqual(scroll_by(one, other[:2] + (place,)), 1)

    def test_by_trial_of_all_small_screens(self):
        for many in range(1, 5):
            for one, other in itertools.product(itertools.product("ab ", repeat=many), repeat=2):
                self.assertEqual(scroll_by(screen_of(*one), screen_of(*other)), scroll_by_trial(screen_of(*one), screen_of(*other)), (one, other))

    def test_by_trial_of_greater_screens(self):
        chance = random.Random(93)
        for turn in range(300):
            width, many = chance.choice((1, 2, 40)), chance.randint(5, 12)
            pool = ["".join(chance.choice("ab ") for column in range(width)) for row in range(4)] + [" " * width]
            one = screen_of(*[chance.choice(pool) for row in range(many)])
            other = screen_of(*[chance.choice(pool) for row in range(many)])
            self.assertEqual(scroll_by(one, other), scroll_by_trial(one, other), (one, other))

    def test_no_screen_also_where_they_are_not_so(self):
        self.refuses_what_are_not_so(scroll_by)


class TestRunsOf(unittest.TestCase, Raises):
    def test_ordinary(self):
        self.assertEqual(runs_of("aaab"), [("a", 3), ("b", 1)])
        self.assertEqual(runs_of("abab"), [("a", 1), ("b", 1), ("a", 1), ("b", 1)])
        self.assertEqual(runs_of("  ~~ "), [(" ", 2), ("~", 2), (" ", 1)])
        self.assertEqual(runs_of("a"), [("a", 1)])
        self.assertEqual(runs_of(""), [])
        self.assertEqual(runs_of("aA"), [("a", 1), ("A", 1)])

    def test_long_stretches_stay_one(self):
        for many in (39, 40, 99, 100, 1000):
            self.assertEqual(runs_of("x" * many), [("x", many)])

    def test_all_short_texts(self):
        for length in range(0, 8):
            for signs in itertools.product("ab ", repeat=length):
                text = "".join(signs)
                wanted = [(sign, len(list(some))) for sign, some in itertools.groupby(text)]
                self.assertEqual(runs_of(text), wanted)
                self.assertEqual(of_runs(wanted), text)

    def test_runs_put_out_again_are_the_text(self):
        chance = random.Random(94)
        for turn in range(300):
            text = "".join(chance.choice(" ab~") * chance.randint(1, 9) for run in range(chance.randint(0, 30)))
            told = runs_of(text)
            self.assertTrue(all(one[0] != other[0] for one, other in zip(told, told[1:])))
            self.assertEqual(of_runs(told), text)
            self.assertEqual(of_runs(tuple(told)), text)

    def test_what_is_no_plain_text(self):
        for thing in things_but(plain) + ["aa\n", "\x1f", "\x7f\x7f", ["a"], ("a", "a")]:
            self.refuses(NoText, runs_of, thing)

    def test_a_new_list_each_time(self):
        first = runs_of("aab")
        self.assertIsInstance(first, list)
        first.clear()
        self.assertEqual(runs_of("aab"), [("a", 2), ("b", 1)])


def run(thing):
    """Tells whether a thing is a run."""
    return (isinstance(thing, tuple) and len(thing) == 2 and plain(thing[0]) and len(thing[0]) == 1
            and isinstance(thing[1], int) and not isinstance(thing[1], bool) and 1 <= thing[1] <= 99)


class TestOfRuns(unittest.TestCase, Raises):
    def test_ordinary(self):
        self.assertEqual(of_runs([("a", 3), ("b", 1)]), "aaab")
        self.assertEqual(of_runs((("a", 3), ("b", 1))), "aaab")
        self.assertEqual(of_runs([(" ", 2), ("~", 1)]), "  ~")
        self.assertEqual(of_runs([]), "")
        self.assertEqual(of_runs(()), "")

    def test_runs_of_one_sign_side_by_side(self):
        self.assertEqual(of_runs([("a", 2), ("a", 3)]), "aaaaa")

    def test_how_many_of_a_sign(self):
        for many in range(1, 100):
            self.assertEqual(of_runs([("x", many)]), "x" * many)
        for many in (0, -1, 100, 101, 10 ** 30, True, False, None, "1", [1]):
            self.refuses(NoText, of_runs, [("x", many)])
            self.refuses(NoText, of_runs, (("y", 1), ("x", many)))

    def test_how_many_runs(self):
        for kind in (list, tuple):
            self.assertEqual(of_runs(kind([("x", 1)] * 98)), "x" * 98)
            self.assertEqual(of_runs(kind([("x", 99)] * 99)), "x" * 9801)
            self.refuses(NoText, of_runs, kind([("x", 1)] * 100))
            self.refuses(NoText, of_runs, kind([("x", 1)] * 101))

    def test_signs(self):
        for code in range(0, 300):
            if 32 <= code <= 126:
                self.assertEqual(of_runs([(chr(code), 2)]), chr(code) * 2)
            else:
                self.refuses(NoText, of_runs, [(chr(code), 2)])
        for sign in ("", "ab", "  ", None, 0, True, ["a"], ("a",)):
            self.refuses(NoText, of_runs, [(sign, 1)])

    def test_what_are_no_runs(self):
        for thing in ([["a", 1]], [("a",)], [("a", 1, 1)], [("a", 1), None], ["a1"], ["ab"], "ab", "", None, 1, {}, {("a", 1): 1},
                      ("a", 1), [[("a", 1)]], [()]):
            self.refuses(NoText, of_runs, thing)

    def test_any_thing(self):
        for thing in any_things():
            if not (isinstance(thing, (list, tuple)) and all(run(part) for part in thing)):
                self.refuses(NoText, of_runs, thing)
            if not run(thing):
                self.refuses(NoText, of_runs, [thing])
                self.refuses(NoText, of_runs, (("a", 1), thing))

    def test_nothing_is_changed(self):
        some = [("a", 2), ("b", 1)]
        before = copy.deepcopy(some)
        of_runs(some)
        self.assertEqual(some, before)


if __name__ == "__main__":
    unittest.main()
