"""What is promised over the whole program: its interface, and what all of its parts keep to."""

import copy
import importlib
import inspect
import random
import unittest

from screenlines.bars import bar, clock, read_clock
from screenlines.boards import Board
from screenlines.columns import wrapped
from screenlines.errors import LineError
from screenlines.least import least, least_cost
from screenlines.orders import all_done, cost
from screenlines.pads import Pad, read_screen, screen_text
from screenlines.screens import shown, unlike_spots
from screenlines.spans import of_runs, runs_of, spans
from screenlines.tables import table
from screenlines.texts import orders_text, read_orders
from screenlines.windows import boxed, laid_on, part_of, scrolled
from tests.things import any_things, some_screen

SCREEN = (6, ("abcdef", " b  ef", "      "), (1, 2))
OTHER = (6, (" b  ef", "      ", "xyz   "), (0, 0))
ORDERS = [("say", "a b"), ("say", "c"), ("go", 0, 1), ("go", 2, 0), ("wipe",), ("wipe",)]
COLUMNS = (("name", "<"), ("size", ">"))
TABLE_ROWS = [("readme", "12"), ("bars", "4096")]

# Of each function, what may be handed in.
CALLS = {
    "screens": {"is_screen": (SCREEN,), "are_rows": (SCREEN, ["a", "b"]), "blank": (6, 3), "shown": (SCREEN,),
                "unlike_spots": (SCREEN, ["abc", "x"])},
    "orders": {"is_order": (("wipe",),), "done": (SCREEN, ("say", "xy")), "all_done": (SCREEN, ORDERS), "cost": (ORDERS,),
               "shortened": (ORDERS,)},
    "least": {"least": (SCREEN, ["abc", "x"]), "least_cost": (SCREEN, ["abc", "x"])},
    "bars": {"bar": (3, 10, 12), "bar_means": ("[###.......]", 100), "percent": (2, 3), "counted": (3, 120), "clock": (3605,),
             "read_clock": ("1:00:05",), "time_left": ([(0, 0), (10, 5)], 20, 2)},
    "columns": {"shared_out": ([5, 5, 5], 7), "cut": ("hello", 4), "filled_to": ("ab", 5, "^"), "wrapped": ("the quick brown fox", 9)},
    "tables": {"is_table": (COLUMNS, TABLE_ROWS), "widths": (COLUMNS, TABLE_ROWS, 20), "table": (COLUMNS, TABLE_ROWS, 20),
               "sorted_by": (COLUMNS, TABLE_ROWS, 0)},
    "texts": {"order_text": (("go", 0, 12),), "orders_text": (ORDERS,), "read_orders": ("say a b\ngo 0 12\nwipe\n",)},
    "windows": {"part_of": (SCREEN, 1, 2, 2, 3), "laid_on": (SCREEN, 0, 0, OTHER), "scrolled": (SCREEN, -1), "boxed": (["a", "bcd"],)},
    "spans": {"spans": (SCREEN, ["abc", "x"]), "alike_rows": (SCREEN, OTHER), "scroll_by": (SCREEN, OTHER), "runs_of": ("aab",),
              "of_runs": ([("a", 2), ("b", 1)],)},
    "pads": {"screen_text": (SCREEN,), "read_screen": ("|ab|\n|cd|\n1 2\n",)},
}
# Of each class, how many things each of its methods takes.
CLASSES = {
    "boards": ("Board", (20,), {"add": 2, "move": 2, "drop": 1, "note": 1, "rows": 0, "show": 0, "shown": 0, "all_tasks": 0, "all_done": 0}),
    "pads": ("Pad", (SCREEN,), {"do": 1, "scroll": 1, "bring": 1, "sheet": 0, "spent": 0, "back": 0, "forth": 0, "counts": 0, "twin": 0}),
}
TRUTHS = ("is_screen", "are_rows", "is_order", "is_table")


def each_call():
    for module, calls in CALLS.items():
        for name, given in calls.items():
            yield name, getattr(importlib.import_module("screenlines." + module), name), given


class TestInterface(unittest.TestCase):
    def takes(self, function, many):
        parameters = inspect.signature(function).parameters.values()
        self.assertTrue(all(one.kind == one.POSITIONAL_OR_KEYWORD and one.default is one.empty for one in parameters), function)
        self.assertEqual(len(parameters), many, function)

    def test_functions(self):
        for name, function, given in each_call():
            self.takes(function, len(given))
            told = function(*given)
            if name in TRUTHS:
                self.assertIs(told, True, name)

    def test_classes(self):
        for module, (name, given, methods) in CLASSES.items():
            kind = getattr(importlib.import_module("screenlines." + module), name)
            self.assertIsInstance(kind, type)
            self.takes(kind, len(given))
            for method, many in methods.items():
                self.takes(getattr(kind(*given), method), many)


class TestWhatAllKeepTo(unittest.TestCase):
    def test_what_is_handed_in_is_not_changed_and_lists_are_new(self):
        for name, function, given in each_call():
            before = copy.deepcopy(given)
            first = function(*given)
            wanted = copy.deepcopy(first)
            self.assertEqual(given, before, name)
            if isinstance(first, list):
                first.append("more")
                first[0] = None
            self.assertEqual(given, before, name)
            self.assertEqual(function(*given), wanted, name)

    def test_lists_that_were_handed_in_are_not_told(self):
        for name, function, given in each_call():
            told = function(*given)
            self.assertFalse(any(told is part for part in given if isinstance(part, list)), name)

    def test_any_thing_is_told_of_or_refused(self):
        things = any_things()
        for name, function, given in each_call():
            for spot in range(len(given)):
                for thing in things:
                    self.is_told_or_refused(function, given[:spot] + (thing,) + given[spot + 1:])

    def test_any_thing_in_the_stead_of_all(self):
        for name, function, given in each_call():
            for thing in any_things():
                self.is_told_or_refused(function, (thing,) * len(given))

    def is_told_or_refused(self, function, given):
        try:
            function(*given)
        except LineError as refusal:
            self.assertEqual(type(refusal).__bases__, (LineError,))

    def test_refused_things_change_no_board_and_no_pad(self):
        for thing in any_things():
            for module, (name, given, methods) in CLASSES.items():
                made = getattr(importlib.import_module("screenlines." + module), name)(*given)
                before = copy.deepcopy(vars(made))
                for method, many in methods.items():
                    if many > 0:
                        try:
                            getattr(made, method)(*(thing,) * many)
                            made = getattr(importlib.import_module("screenlines." + module), name)(*given)
                        except LineError:
                            self.assertEqual(vars(made), before, (name, method, thing))


class TestTogether(unittest.TestCase):
    def test_a_board_on_a_pad(self):
        chance = random.Random(20)
        board, pad = Board(30), Pad(Board(30).shown())
        numbers = [board.add(f"task {number}", 10 + number) for number in range(4)]
        for turn in range(12):
            board.move(chance.choice(numbers), 1 if turn else 0)
            board.note(clock(turn * 61))
            rows, before = board.rows(), board.shown()
            orders = read_orders(orders_text(board.show()))
            self.assertEqual(all_done(before, orders), board.shown())
            self.assertEqual(cost(orders), least_cost(before, rows))
            pad.bring(rows)
            self.assertEqual(shown(pad.sheet()), shown(board.shown()))
            self.assertEqual(spans(board.shown(), rows), [])
            self.assertEqual(read_screen(screen_text(board.shown())), board.shown())
        self.assertEqual(pad.counts(), (12, 0))
        self.assertEqual([pad.back() for turn in range(12)], ["bring"] * 12)
        self.assertEqual((pad.sheet(), pad.spent()), (Board(30).shown(), 0))

    def test_least_orders_done_on_a_pad(self):
        chance = random.Random(21)
        for turn in range(40):
            width, many = chance.randint(1, 40), chance.randint(1, 12)
            one, other = some_screen(chance, width, many, "ab  "), some_screen(chance, width, many, "ab  ")
            rows = shown(other)
            pad = Pad(one)
            for order in least(one, rows):
                pad.do(order)
            self.assertEqual(pad.spent(), least_cost(one, rows))
            self.assertEqual(pad.sheet()[1], other[1])
            self.assertEqual(sum(span[2] for span in spans(one, rows)), len(unlike_spots(one, rows)))

    def test_boxes_and_tables_on_a_screen(self):
        rows = boxed(table(COLUMNS, TABLE_ROWS, 38) + wrapped("so much is told of it", 12) + [bar(1, 2, 12)])
        width, many = len(rows[0]), len(rows)
        box = (width, tuple(rows), (0, 0))
        screen = laid_on((40, ("." * 40,) * 12, (3, 7)), 1, 2, box)
        self.assertEqual(part_of(screen, 1, 2, many, width), box)
        self.assertEqual(scrolled(scrolled(screen, 1), -1)[1], (" " * 40,) + screen[1][1:])
        for row in screen[1]:
            self.assertEqual(of_runs(runs_of(row)), row)
        self.assertEqual(read_clock(clock(59)), 59)


if __name__ == "__main__":
    unittest.main()
