import copy
import unittest

from screenlines.errors import NoOrder, NoRoom, NoScreen
from screenlines.orders import all_done, cost, done, is_order, shortened
from screenlines.screens import blank
from tests.things import Raises, any_things

SCREEN = (5, ("abcde", "fghij"), (1, 2))
NO_ORDERS = (
    (), ("say",), ("say", ""), ("say", "x" * 41), ("say", "a\n"), ("say", "\u00e9"), ("say", "\x7f"), ("say", None),
    ("say", 1), ("say", ["a"]), ("say", ("a",)), ("say", "a", "b"), ("go",), ("go", 0), ("go", -1, 0), ("go", 12, 0),
    ("go", 0, -1), ("go", 0, 41), ("go", True, 0), ("go", 0, True), ("go", False, 0), ("go", 0, False), ("go", None, 0),
    ("go", "0", "0"), ("go", (0, 0)), ("go", 0, 0, 0), ("wipe", 0), ("wipe", None), ("wipe", ""), ("Wipe",), ("",),
    (None,), (("wipe",),), ["wipe"], ["say", "a"], ["go", 0, 0], "wipe", "say", "go", ("SAY", "a"), ("GO", 0, 0),
    ("wipe", "a"), ("wipe", 0, 0), ("say", 0, 0), ("go", "a"), (["wipe"],),
)


class TestIsOrder(unittest.TestCase):
    def test_bounds_of_a_say(self):
        for many in (1, 2, 39, 40):
            self.assertIs(is_order(("say", "x" * many)), True, many)
        for many in (0, 41, 100):
            self.assertIs(is_order(("say", "x" * many)), False, many)

    def test_signs_of_a_say(self):
        for code in range(0, 300):
            self.assertIs(is_order(("say", chr(code))), 32 <= code <= 126, code)

    def test_bounds_of_a_go(self):
        for row in (0, 1, 10, 11):
            for column in (0, 1, 39, 40):
                self.assertIs(is_order(("go", row, column)), True, (row, column))
        for row, column in ((-1, 0), (12, 0), (0, -1), (0, 41), (12, 41)):
            self.assertIs(is_order(("go", row, column)), False, (row, column))

    def test_wipe(self):
        self.assertIs(is_order(("wipe",)), True)

    def test_what_is_none(self):
        for thing in NO_ORDERS:
            self.assertIs(is_order(thing), False, thing)

    def test_any_thing(self):
        for thing in any_things():
            self.assertIs(is_order(thing), False, thing)


class TestDone(unittest.TestCase, Raises):
    def test_say_at_the_beginning_within_and_at_the_end(self):
        self.assertEqual(done((5, SCREEN[1], (0, 0)), ("say", "XY")), (5, ("XYcde", "fghij"), (0, 2)))
        self.assertEqual(done(SCREEN, ("say", "XY")), (5, ("abcde", "fgXYj"), (1, 4)))
        self.assertEqual(done(SCREEN, ("say", "XYZ")), (5, ("abcde", "fgXYZ"), (1, 5)))
        self.assertEqual(done((5, SCREEN[1], (0, 4)), ("say", " ")), (5, ("abcd ", "fghij"), (0, 5)))

    def test_say_a_whole_row(self):
        self.assertEqual(done(blank(40, 1), ("say", "x" * 40)), (40, ("x" * 40,), (0, 40)))

    def test_say_without_room(self):
        self.refuses(NoRoom, done, SCREEN, ("say", "WXYZ"))
        self.refuses(NoRoom, done, (5, SCREEN[1], (0, 0)), ("say", "x" * 6))
        self.refuses(NoRoom, done, (5, SCREEN[1], (0, 5)), ("say", "x"))
        self.refuses(NoRoom, done, (5, SCREEN[1], (1, 5)), ("say", " "))

    def test_go(self):
        for place in ((0, 0), (0, 5), (1, 0), (1, 5), (1, 2)):
            self.assertEqual(done(SCREEN, ("go",) + place), (5, SCREEN[1], place))
        self.assertEqual(done(blank(40, 12), ("go", 11, 40)), (40, (" " * 40,) * 12, (11, 40)))

    def test_go_without_room(self):
        for place in ((2, 0), (0, 6), (2, 6), (11, 0), (0, 40)):
            self.refuses(NoRoom, done, SCREEN, ("go",) + place)

    def test_wipe_at_the_beginning_within_and_at_the_end(self):
        self.assertEqual(done((5, SCREEN[1], (0, 0)), ("wipe",)), (5, ("     ", "fghij"), (0, 0)))
        self.assertEqual(done(SCREEN, ("wipe",)), (5, ("abcde", "fg   "), (1, 2)))
        self.assertEqual(done((5, SCREEN[1], (1, 4)), ("wipe",)), (5, ("abcde", "fghi "), (1, 4)))
        self.assertEqual(done((5, SCREEN[1], (1, 5)), ("wipe",)), (5, SCREEN[1], (1, 5)))

    def test_a_row_among_others(self):
        screen = (2, ("ab", "cd", "ef"), (1, 1))
        self.assertEqual(done(screen, ("say", "X")), (2, ("ab", "cX", "ef"), (1, 2)))
        self.assertEqual(done(screen, ("wipe",)), (2, ("ab", "c ", "ef"), (1, 1)))

    def test_what_is_no_order(self):
        for thing in NO_ORDERS + tuple(any_things()):
            self.refuses(NoOrder, done, SCREEN, thing)

    def test_no_screen_ahead_of_no_order(self):
        self.refuses(NoScreen, done, list(SCREEN), ("wipe", 0))


class TestAllDone(unittest.TestCase, Raises):
    def test_one_by_one(self):
        orders = [("say", "X"), ("wipe",), ("go", 0, 1), ("say", "YZ")]
        self.assertEqual(all_done(SCREEN, orders), (5, ("aYZde", "fgX  "), (0, 3)))

    def test_none_at_all(self):
        self.assertEqual(all_done(SCREEN, []), SCREEN)

    def test_the_same_as_done_again_and_again(self):
        orders = [("go", 1, 0), ("say", "ab"), ("say", "c"), ("wipe",), ("wipe",), ("go", 0, 5), ("wipe",)]
        screen = SCREEN
        for order in orders:
            screen = done(screen, order)
        self.assertEqual(all_done(SCREEN, orders), screen)

    def test_no_room_anywhere(self):
        for orders in ([("go", 2, 0)], [("say", "abc"), ("say", "d")], [("go", 9, 9), ("go", 0, 0)]):
            self.refuses(NoRoom, all_done, SCREEN, orders)

    def test_no_order_ahead_of_any_no_room(self):
        for thing in NO_ORDERS:
            self.refuses(NoOrder, all_done, SCREEN, [thing])
            self.refuses(NoOrder, all_done, SCREEN, [thing, ("go", 11, 40)])
            self.refuses(NoOrder, all_done, SCREEN, [("go", 11, 40), thing])
            self.refuses(NoOrder, all_done, SCREEN, [("wipe",), ("say", "x" * 40), thing, ("wipe",)])

    def test_no_list(self):
        for thing in any_things() + [(("wipe",),), ()]:
            if thing != []:
                self.refuses(NoOrder, all_done, SCREEN, thing)

    def test_nothing_is_changed(self):
        orders = [("say", "a"), ("say", "b"), ("go", 0, 0), ("go", 0, 0)]
        before = copy.deepcopy(orders)
        first = all_done(SCREEN, orders)
        self.assertEqual(orders, before)
        self.assertEqual(all_done(SCREEN, orders), first)


class TestCost(unittest.TestCase, Raises):
    def test_each_kind(self):
        self.assertEqual(cost([]), 0)
        self.assertEqual(cost([("say", "a")]), 1)
        self.assertEqual(cost([("say", "x" * 40)]), 40)
        self.assertEqual(cost([("go", 11, 40)]), 2)
        self.assertEqual(cost([("go", 0, 0)]), 2)
        self.assertEqual(cost([("wipe",)]), 1)

    def test_together(self):
        self.assertEqual(cost([("go", 0, 0), ("say", "abc"), ("wipe",), ("say", "  "), ("wipe",)]), 9)

    def test_what_are_no_orders(self):
        for thing in any_things() + list(NO_ORDERS) + [(("wipe",),)]:
            if thing != []:
                self.refuses(NoOrder, cost, thing)
            self.refuses(NoOrder, cost, [thing])
            self.refuses(NoOrder, cost, [("wipe",), thing])


class TestShortened(unittest.TestCase, Raises):
    def test_gos(self):
        self.assertEqual(shortened([("go", 0, 1), ("go", 2, 3)]), [("go", 2, 3)])
        self.assertEqual(shortened([("go", 0, 1), ("go", 2, 3), ("go", 2, 3), ("go", 4, 5)]), [("go", 4, 5)])

    def test_wipes(self):
        self.assertEqual(shortened([("wipe",), ("wipe",)]), [("wipe",)])
        self.assertEqual(shortened([("wipe",)] * 5), [("wipe",)])

    def test_says(self):
        self.assertEqual(shortened([("say", "ab"), ("say", "c")]), [("say", "abc")])
        self.assertEqual(shortened([("say", sign) for sign in "abcdef"]), [("say", "abcdef")])

    def test_says_of_just_forty_signs_and_of_more(self):
        self.assertEqual(shortened([("say", "a" * 20), ("say", "b" * 20)]), [("say", "a" * 20 + "b" * 20)])
        self.assertEqual(shortened([("say", "a" * 39), ("say", "b")]), [("say", "a" * 39 + "b")])
        for one, other in (("a" * 20, "b" * 21), ("a" * 40, "b"), ("a", "b" * 40)):
            self.assertEqual(shortened([("say", one), ("say", other)]), [("say", one), ("say", other)])

    def test_says_again_and_again(self):
        self.assertEqual(shortened([("say", "a")] * 41), [("say", "a" * 40), ("say", "a")])
        self.assertEqual(shortened([("say", "a" * 30), ("say", "b" * 20), ("say", "c" * 20)]),
                         [("say", "a" * 30), ("say", "b" * 20 + "c" * 20)])

    def test_apart_they_stay(self):
        orders = [("go", 0, 0), ("say", "a"), ("go", 0, 0), ("wipe",), ("say", "b"), ("wipe",), ("go", 1, 1)]
        self.assertEqual(shortened(orders), orders)
        self.assertEqual(shortened([]), [])

    def test_several_kinds(self):
        orders = [("go", 0, 0), ("go", 1, 1), ("say", "a"), ("say", "b"), ("wipe",), ("wipe",), ("say", "c")]
        self.assertEqual(shortened(orders), [("go", 1, 1), ("say", "ab"), ("wipe",), ("say", "c")])

    def test_shortened_again_is_the_same_and_does_the_same(self):
        orders = [("say", "a"), ("say", "b"), ("wipe",), ("wipe",), ("go", 0, 3), ("go", 0, 1), ("say", "z")]
        short = shortened(orders)
        self.assertEqual(shortened(short), short)
        self.assertEqual(all_done(SCREEN, short), all_done(SCREEN, orders))

    def test_what_are_no_orders(self):
        for thing in any_things() + list(NO_ORDERS) + [(("wipe",),)]:
            if thing != []:
                self.refuses(NoOrder, shortened, thing)
            self.refuses(NoOrder, shortened, [thing])
            self.refuses(NoOrder, shortened, [("wipe",), ("wipe",), thing])

    def test_a_new_list_and_nothing_changed(self):
        for orders in ([("say", "a"), ("say", "b"), ("wipe",), ("wipe",)], [("wipe",)], []):
            before = copy.deepcopy(orders)
            first = shortened(orders)
            self.assertIsInstance(first, list)
            self.assertIsNot(first, orders)
            self.assertEqual(orders, before)
            again = shortened(orders)
            first.append(("go", 9, 9))
            first[0] = None
            self.assertEqual(orders, before)
            self.assertEqual(shortened(orders), again)


if __name__ == "__main__":
    unittest.main()
