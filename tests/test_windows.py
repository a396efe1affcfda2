import copy
import itertools
import random
import unittest

from screenlines.errors import NoNumber, NoRoom, NoScreen, NoText
from screenlines.screens import blank, is_screen
from screenlines.windows import boxed, laid_on, part_of, scrolled
from tests.things import Raises, any_things, plain, some_screen, things_but, whole_within

SCREEN = (4, ("abcd", "efgh", "ijkl"), (2, 4))
NO_SCREENS = (list(SCREEN), (4, SCREEN[1], (3, 0)), (4, SCREEN[1], (0, 5)), (3, SCREEN[1], (0, 0)), (True, ("a",), (0, 0)), SCREEN[:2],
              (41, ("x" * 41,), (0, 0)), (1, ("x",) * 13, (0, 0)), (1, ("\n",), (0, 0)), None)


class TestPartOf(unittest.TestCase, Raises):
    def test_ordinary(self):
        self.assertEqual(part_of(SCREEN, 1, 2, 2, 2), (2, ("gh", "kl"), (0, 0)))
        self.assertEqual(part_of(SCREEN, 0, 0, 1, 1), (1, ("a",), (0, 0)))
        self.assertEqual(part_of(SCREEN, 2, 3, 1, 1), (1, ("l",), (0, 0)))
        self.assertEqual(part_of(SCREEN, 1, 0, 1, 4), (4, ("efgh",), (0, 0)))
        self.assertEqual(part_of(SCREEN, 0, 1, 3, 1), (1, ("b", "f", "j"), (0, 0)))

    def test_the_whole(self):
        self.assertEqual(part_of(SCREEN, 0, 0, 3, 4), SCREEN[:2] + ((0, 0),))

    def test_all_parts_of_one_and_somewhat_beyond(self):
        for top, left, high, wide in itertools.product(range(-4, 5), range(-5, 6), range(-1, 5), range(-1, 6)):
            if 0 <= top and 0 <= left and 1 <= high and 1 <= wide and top + high <= 3 and left + wide <= 4:
                rows = tuple("".join(SCREEN[1][row][column] for column in range(left, left + wide)) for row in range(top, top + high))
                told = part_of(SCREEN, top, left, high, wide)
                self.assertEqual(told, (wide, rows, (0, 0)))
                self.assertTrue(is_screen(told))
            else:
                self.refuses(NoRoom, part_of, SCREEN, top, left, high, wide)

    def test_the_greatest(self):
        screen = some_screen(random.Random(81), 40, 12, "ab ")
        self.assertEqual(part_of(screen, 0, 0, 12, 40)[1], screen[1])
        self.assertEqual(part_of(screen, 11, 39, 1, 1)[1], (screen[1][11][39],))
        for given in ((0, 0, 13, 40), (0, 0, 12, 41), (1, 0, 12, 40), (0, 1, 12, 40), (12, 0, 1, 1), (0, 40, 1, 1), (0, 0, 0, 1), (0, 0, 1, 0)):
            self.refuses(NoRoom, part_of, screen, *given)

    def test_any_thing(self):
        for thing in any_things():
            if not whole_within(0, 0)(thing) and not whole_within(1, 2)(thing):
                self.refuses(NoRoom, part_of, SCREEN, thing, 0, 1, 1)
                self.refuses(NoRoom, part_of, SCREEN, 0, thing, 1, 1)
            if not whole_within(1, 2)(thing):
                self.refuses(NoRoom, part_of, SCREEN, 0, 0, thing, 1)
                self.refuses(NoRoom, part_of, SCREEN, 0, 0, 1, thing)

    def test_truths_are_no_numbers(self):
        for given in ((False, 0, 1, 1), (0, False, 1, 1), (0, 0, True, 1), (0, 0, 1, True), (True, 1, 1, 1), (1, True, 1, 1)):
            self.refuses(NoRoom, part_of, SCREEN, *given)

    def test_no_screen_comes_first(self):
        for thing in any_things() + list(NO_SCREENS):
            self.refuses(NoScreen, part_of, thing, 0, 0, 1, 1)
        for thing in NO_SCREENS:
            self.refuses(NoScreen, part_of, thing, 99, None, 0, -1)

    def test_a_part_of_a_part_is_a_part_of_the_whole(self):
        chance = random.Random(82)
        for turn in range(500):
            screen = some_screen(chance, chance.randint(1, 40), chance.randint(1, 12), "abc ")
            top, left = chance.randrange(len(screen[1])), chance.randrange(screen[0])
            high, wide = chance.randint(1, len(screen[1]) - top), chance.randint(1, screen[0] - left)
            part = part_of(screen, top, left, high, wide)
            down, across = chance.randrange(high), chance.randrange(wide)
            lower, narrower = chance.randint(1, high - down), chance.randint(1, wide - across)
            self.assertEqual(part_of(part, down, across, lower, narrower),
                             part_of(screen, top + down, left + across, lower, narrower))


class TestLaidOn(unittest.TestCase, Raises):
    def test_ordinary(self):
        self.assertEqual(laid_on(SCREEN, 1, 1, (2, ("XY", "ZW"), (0, 0))), (4, ("abcd", "eXYh", "iZWl"), (2, 4)))
        self.assertEqual(laid_on(SCREEN, 0, 0, (1, ("X",), (0, 1))), (4, ("Xbcd", "efgh", "ijkl"), (2, 4)))
        self.assertEqual(laid_on(SCREEN, 2, 3, (1, ("X",), (0, 0))), (4, ("abcd", "efgh", "ijkX"), (2, 4)))
        self.assertEqual(laid_on(SCREEN, 0, 2, (2, ("X ", "  ", " Y"), (2, 2))), (4, ("abX ", "ef  ", "ij Y"), (2, 4)))

    def test_blanks_are_laid_on_too(self):
        self.assertEqual(laid_on(SCREEN, 0, 0, blank(4, 3)), blank(4, 3)[:2] + ((2, 4),))

    def test_the_whole(self):
        self.assertEqual(laid_on(blank(4, 3), 0, 0, SCREEN), SCREEN[:2] + ((0, 0),))

    def test_everywhere_and_somewhat_beyond(self):
        for high, wide in itertools.product(range(1, 6), range(1, 7)):
            other = (wide, ("#" * wide,) * high, (0, 0))
            for top, left in itertools.product(range(-4, 5), range(-5, 6)):
                if top >= 0 and left >= 0 and top + high <= 3 and left + wide <= 4:
                    rows = tuple("".join("#" if top <= row < top + high and left <= column < left + wide else SCREEN[1][row][column]
                                         for column in range(4)) for row in range(3))
                    told = laid_on(SCREEN, top, left, other)
                    self.assertEqual(told, (4, rows, (2, 4)))
                    self.assertTrue(is_screen(told))
                else:
                    self.refuses(NoRoom, laid_on, SCREEN, top, left, other)

    def test_a_part_laid_on_where_it_was_changes_nothing(self):
        for top, left, high, wide in itertools.product(range(3), range(4), range(1, 4), range(1, 5)):
            if top + high <= 3 and left + wide <= 4:
                self.assertEqual(laid_on(SCREEN, top, left, part_of(SCREEN, top, left, high, wide)), SCREEN)
        chance = random.Random(83)
        for turn in range(300):
            screen = some_screen(chance, chance.randint(1, 40), chance.randint(1, 12), "abc ")
            top, left = chance.randrange(len(screen[1])), chance.randrange(screen[0])
            part = part_of(screen, top, left, chance.randint(1, len(screen[1]) - top), chance.randint(1, screen[0] - left))
            self.assertEqual(laid_on(screen, top, left, part), screen)

    def test_what_is_laid_on_is_a_part_then(self):
        chance = random.Random(84)
        for turn in range(300):
            screen = some_screen(chance, chance.randint(1, 40), chance.randint(1, 12), "abc ")
            other = some_screen(chance, chance.randint(1, screen[0]), chance.randint(1, len(screen[1])), "XYZ ")
            top, left = chance.randint(0, len(screen[1]) - len(other[1])), chance.randint(0, screen[0] - other[0])
            told = laid_on(screen, top, left, other)
            self.assertEqual(part_of(told, top, left, len(other[1]), other[0]), other[:2] + ((0, 0),))
            self.assertEqual(told[2], screen[2])

    def test_any_thing(self):
        other = (1, ("X",), (0, 0))
        for thing in things_but(whole_within(0, 2)):
            self.refuses(NoRoom, laid_on, SCREEN, thing, 0, other)
            self.refuses(NoRoom, laid_on, SCREEN, 0, thing, other)

    def test_no_screen_of_either(self):
        for thing in any_things() + list(NO_SCREENS):
            self.refuses(NoScreen, laid_on, thing, 0, 0, SCREEN)
            self.refuses(NoScreen, laid_on, SCREEN, 0, 0, thing)
            self.refuses(NoScreen, laid_on, thing, 0, 0, thing)

    def test_no_screen_comes_first(self):
        for thing in NO_SCREENS:
            self.refuses(NoScreen, laid_on, thing, 9, 9, SCREEN)
            self.refuses(NoScreen, laid_on, SCREEN, 9, None, thing)


class TestScrolled(unittest.TestCase, Raises):
    def test_ordinary(self):
        self.assertEqual(scrolled(SCREEN, 1), (4, ("efgh", "ijkl", "    "), (2, 4)))
        self.assertEqual(scrolled(SCREEN, 2), (4, ("ijkl", "    ", "    "), (2, 4)))
        self.assertEqual(scrolled(SCREEN, -1), (4, ("    ", "abcd", "efgh"), (2, 4)))
        self.assertEqual(scrolled(SCREEN, -2), (4, ("    ", "    ", "abcd"), (2, 4)))
        self.assertEqual(scrolled(SCREEN, 0), SCREEN)

    def test_as_many_rows_as_there_are_and_more(self):
        for by in list(range(3, 13)) + list(range(-12, -2)):
            self.assertEqual(scrolled(SCREEN, by), (4, ("    ",) * 3, (2, 4)), by)

    def test_all_sizes(self):
        chance = random.Random(85)
        for many in range(1, 13):
            screen = some_screen(chance, chance.randint(1, 40), many, "abc")
            for by in range(-12, 13):
                told = scrolled(screen, by)
                self.assertTrue(is_screen(told))
                self.assertEqual((told[0], told[2]), (screen[0], screen[2]))
                for number in range(many):
                    wanted = screen[1][number + by] if number + by in range(many) else " " * screen[0]
                    self.assertEqual(told[1][number], wanted, (many, by, number))

    def test_bounds(self):
        screen = blank(40, 12)
        for by in (-12, 12):
            self.assertEqual(scrolled(screen, by), screen)
        for by in (-13, 13, -100, 100, 10 ** 30, -10 ** 30):
            self.refuses(NoNumber, scrolled, screen, by)
            self.refuses(NoNumber, scrolled, SCREEN, by)

    def test_any_thing(self):
        for thing in things_but(whole_within(-12, 12)):
            self.refuses(NoNumber, scrolled, SCREEN, thing)

    def test_no_screen_comes_first(self):
        for thing in any_things() + list(NO_SCREENS):
            self.refuses(NoScreen, scrolled, thing, 0)
            self.refuses(NoScreen, scrolled, thing, 13)
            self.refuses(NoScreen, scrolled, thing, None)


class TestBoxed(unittest.TestCase, Raises):
    def test_ordinary(self):
        self.assertEqual(boxed(["a", "bcd", ""]), ["+---+", "|a  |", "|bcd|", "|   |", "+---+"])
        self.assertEqual(boxed(("a",)), ["+-+", "|a|", "+-+"])
        self.assertEqual(boxed([" a "]), ["+---+", "| a |", "+---+"])
        self.assertEqual(boxed(["|", "+-"]), ["+--+", "|| |", "|+-|", "+--+"])

    def test_empty_texts(self):
        self.assertEqual(boxed([""]), ["++", "||", "++"])
        self.assertEqual(boxed(("", "")), ["++", "||", "||", "++"])

    def test_blanks_count_as_signs(self):
        self.assertEqual(boxed(["   ", "a"]), ["+---+", "|   |", "|a  |", "+---+"])

    def test_how_many(self):
        for many in range(1, 11):
            for kind in (list, tuple):
                self.assertEqual(boxed(kind(["x"] * many)), ["+-+"] + ["|x|"] * many + ["+-+"])
        for many in (0, 11, 12, 40):
            for kind in (list, tuple):
                self.refuses(NoText, boxed, kind(["x"] * many))

    def test_how_wide(self):
        for width in range(0, 39):
            edge = "+" + "-" * width + "+"
            self.assertEqual(boxed(["x" * width, ""]), [edge, "|" + "x" * width + "|", "|" + " " * width + "|", edge])
        for width in (39, 40, 41, 100):
            self.refuses(NoText, boxed, ["x" * width])
            self.refuses(NoText, boxed, ["x", " " * width])

    def test_the_greatest_goes_onto_a_screen(self):
        rows = boxed(["x" * 38] * 10)
        self.assertTrue(is_screen((40, tuple(rows), (0, 0))))

    def test_any_thing(self):
        for thing in any_things():
            if not (isinstance(thing, (list, tuple)) and thing and all(plain(part) and len(part) <= 38 for part in thing)):
                self.refuses(NoText, boxed, thing)
            if not (plain(thing) and len(thing) <= 38):
                self.refuses(NoText, boxed, [thing])
                self.refuses(NoText, boxed, ("a", thing))
        for thing in ("a", "", {"a": "b"}, {}, None):
            self.refuses(NoText, boxed, thing)

    def test_all_signs(self):
        for code in range(0, 300):
            if 32 <= code <= 126:
                self.assertEqual(boxed([chr(code)]), ["+-+", "|" + chr(code) + "|", "+-+"])
            else:
                self.refuses(NoText, boxed, [chr(code)])

    def test_a_new_list_and_nothing_changed(self):
        texts = ["a", "bc"]
        before = copy.deepcopy(texts)
        first = boxed(texts)
        self.assertIsInstance(first, list)
        first.clear()
        self.assertEqual(texts, before)
        self.assertEqual(boxed(texts), ["+--+", "|a |", "|bc|", "+--+"])


if __name__ == "__main__":
    unittest.main()
