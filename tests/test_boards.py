import random
import unittest

from screenlines.bars import bar, percent
from screenlines.boards import Board
from screenlines.errors import LineError, NoNumber, NoRoom, NoTask, NoText
from screenlines.least import least, least_cost
from screenlines.orders import all_done, cost, is_order
from screenlines.screens import blank, is_screen, unlike_spots
from tests.things import Raises, plain, things_but, whole_within

MOST = 1000000000
NO_TEXTS = ("a\n", "\t", "\x7f", "\u00e9", None, 0, True, ["a"], ("a",), [])
NO_TOTALS = (0, -1, MOST + 1, True, False, None, "9", [9])


def state(board):
    """All that can be seen of a board without a change to it."""
    return board.all_tasks(), board.all_done(), board.rows(), board.shown()


def board_of(width, totals):
    board = Board(width)
    for number, total in enumerate(totals):
        board.add(f"task {number}", total)
    return board


class BoardCase(unittest.TestCase, Raises):
    def refuses_unchanged(self, error, board, function, *given):
        before = state(board)
        self.refuses(error, function, *given)
        self.assertEqual(state(board), before)

    def shows(self, board):
        """Shows the board, and holds what is told against what least promises."""
        before, rows = board.shown(), board.rows()
        price, orders = least_cost(before, rows), board.show()
        self.assertIsInstance(orders, list)
        self.assertTrue(all(is_order(order) for order in orders), orders)
        self.assertEqual(cost(orders), price)
        self.assertEqual(board.shown(), all_done(before, orders))
        self.assertEqual(unlike_spots(board.shown(), rows), [])
        self.assertEqual(board.rows(), rows)
        return orders


class TestBoard(BoardCase):
    def test_a_new_one(self):
        for width in range(20, 41):
            board = Board(width)
            self.assertEqual(board.shown(), blank(width, 12))
            self.assertEqual(board.all_tasks(), [])
            self.assertEqual(board.rows(), [])
            self.assertIs(board.all_done(), True)
            self.assertEqual(board.show(), [])

    def test_other_widths(self):
        for width in (19, 41, 0, -20, 100, True, None, "20", [20]):
            self.refuses(NoRoom, Board, width)
        for thing in things_but(whole_within(20, 40)):
            self.refuses(NoRoom, Board, thing)


class TestAdd(BoardCase):
    def test_numbers_from_0_on_and_behind_all(self):
        board = Board(30)
        self.assertEqual([board.add(name, total) for name, total in (("b", 5), ("a", 1), ("", MOST), ("a", 1))], [0, 1, 2, 3])
        self.assertEqual(board.all_tasks(), [(0, "b", 0, 5), (1, "a", 0, 1), (2, "", 0, MOST), (3, "a", 0, 1)])
        self.assertIs(board.all_done(), False)

    def test_nine_and_no_more(self):
        board = board_of(30, range(1, 10))
        self.assertEqual(len(board.all_tasks()), 9)
        self.refuses_unchanged(NoRoom, board, board.add, "more", 1)
        board.drop(8)
        self.assertEqual(board.add("more", 1), 9)
        self.refuses_unchanged(NoRoom, board, board.add, "more", 1)

    def test_no_number_comes_again(self):
        board = board_of(30, (1, 2, 3))
        board.drop(2)
        self.assertEqual(board.add("d", 4), 3)
        board.drop(0)
        board.drop(1)
        board.drop(3)
        self.assertEqual(board.all_tasks(), [])
        self.assertEqual(board.add("e", 5), 4)
        self.assertEqual(board.all_tasks(), [(4, "e", 0, 5)])

    def test_what_is_refused_takes_no_number(self):
        board = Board(30)
        self.refuses_unchanged(NoText, board, board.add, "\n", 1)
        self.refuses_unchanged(NoNumber, board, board.add, "a", 0)
        self.assertEqual(board.add("a", 1), 0)
        for number in range(1, 9):
            board.add("a", 1)
        self.refuses_unchanged(NoRoom, board, board.add, "a", 1)
        board.drop(4)
        self.assertEqual(board.add("a", 1), 9)

    def test_refusals(self):
        board = board_of(30, (3, 4))
        for name in NO_TEXTS:
            self.refuses_unchanged(NoText, board, board.add, name, 5)
        for total in NO_TOTALS:
            self.refuses_unchanged(NoNumber, board, board.add, "a", total)
        for thing in things_but(plain):
            self.refuses_unchanged(NoText, board, board.add, thing, 5)
        for thing in things_but(whole_within(1, MOST)):
            self.refuses_unchanged(NoNumber, board, board.add, "a", thing)

    def test_which_comes_first(self):
        for board in (board_of(30, (1, 2)), board_of(30, range(1, 10))):
            for name in NO_TEXTS:
                for total in (1,) + NO_TOTALS:
                    self.refuses_unchanged(NoText, board, board.add, name, total)
            for total in NO_TOTALS:
                self.refuses_unchanged(NoNumber, board, board.add, "a", total)


class TestMove(BoardCase):
    def test_more_and_less(self):
        board = board_of(30, (5, 7))
        self.assertEqual(board.move(1, 3), 3)
        self.assertEqual(board.move(1, 4), 7)
        self.assertEqual(board.move(1, -6), 1)
        self.assertEqual(board.move(1, 0), 1)
        self.assertEqual(board.move(1, -1), 0)
        self.assertEqual(board.move(0, 5), 5)
        self.assertEqual(board.all_tasks(), [(0, "task 0", 5, 5), (1, "task 1", 0, 7)])

    def test_bounds(self):
        board = board_of(30, (5, MOST))
        board.move(0, 2)
        for by in (-3, 4, -100, 100, MOST * MOST):
            self.refuses_unchanged(NoNumber, board, board.move, 0, by)
        self.assertEqual(board.move(0, 3), 5)
        self.refuses_unchanged(NoNumber, board, board.move, 0, 1)
        self.assertEqual(board.move(0, -5), 0)
        self.refuses_unchanged(NoNumber, board, board.move, 0, -1)
        self.assertEqual(board.move(1, MOST), MOST)
        self.refuses_unchanged(NoNumber, board, board.move, 1, 1)

    def test_by_no_whole_number(self):
        board = board_of(30, (100,))
        board.move(0, 50)
        for by in (True, False, None, "1", [1], (1,)):
            self.refuses_unchanged(NoNumber, board, board.move, 0, by)
        for thing in things_but(whole_within(-50, 50)):
            self.refuses_unchanged(NoNumber, board, board.move, 0, thing)

    def test_where_a_task_stands_stays(self):
        board = board_of(30, (5, 5, 5))
        board.move(1, 2)
        board.move(0, 1)
        self.assertEqual([task[0] for task in board.all_tasks()], [0, 1, 2])


class TestNoTask(BoardCase):
    def test_move_and_drop(self):
        board = board_of(30, (1, 2, 3))
        board.drop(1)
        for number in (1, 3, -1, 100, True, False, None, "0", [0], (0,), "task 0", ""):
            self.refuses_unchanged(NoTask, board, board.move, number, 1)
            self.refuses_unchanged(NoTask, board, board.drop, number)
        for thing in things_but(lambda thing: whole_within(0, 2)(thing) and thing != 1):
            self.refuses_unchanged(NoTask, board, board.move, thing, 1)
            self.refuses_unchanged(NoTask, board, board.drop, thing)

    def test_truths_are_no_numbers_of_tasks(self):
        board = board_of(30, (5, 5))
        for truth in (True, False):
            self.refuses_unchanged(NoTask, board, board.move, truth, 1)
            self.refuses_unchanged(NoTask, board, board.drop, truth)

    def test_ahead_of_no_number(self):
        board = board_of(30, (1, 2, 3))
        for by in (True, None, "1", 99, -99):
            self.refuses_unchanged(NoTask, board, board.move, 3, by)
            self.refuses_unchanged(NoTask, board, board.move, None, by)

    def test_without_tasks(self):
        board = Board(20)
        self.refuses_unchanged(NoTask, board, board.move, 0, 0)
        self.refuses_unchanged(NoTask, board, board.drop, 0)


class TestDrop(BoardCase):
    def test_whether_it_was_done(self):
        board = board_of(30, (1, 2, 3))
        board.move(0, 1)
        board.move(1, 1)
        self.assertIs(board.drop(0), True)
        self.assertIs(board.drop(1), False)
        self.assertIs(board.drop(2), False)
        self.assertEqual(board.all_tasks(), [])

    def test_the_others_stay(self):
        board = board_of(30, (1, 2, 3))
        board.drop(1)
        self.assertEqual(board.all_tasks(), [(0, "task 0", 0, 1), (2, "task 2", 0, 3)])
        self.assertEqual(board.move(2, 1), 1)
        self.refuses_unchanged(NoTask, board, board.drop, 1)


class TestAllDone(BoardCase):
    def test_whether_all_are(self):
        board = board_of(30, (1, 2))
        self.assertIs(board.all_done(), False)
        board.move(0, 1)
        self.assertIs(board.all_done(), False)
        board.move(1, 1)
        self.assertIs(board.all_done(), False)
        board.move(1, 1)
        self.assertIs(board.all_done(), True)
        board.move(0, -1)
        self.assertIs(board.all_done(), False)
        board.drop(0)
        self.assertIs(board.all_done(), True)
        board.add("c", 1)
        self.assertIs(board.all_done(), False)


class TestNote(BoardCase):
    def test_none_is_told(self):
        self.assertIsNone(Board(20).note("a"))

    def test_refusals(self):
        board = Board(20)
        board.note("kept")
        for text in NO_TEXTS:
            self.refuses_unchanged(NoText, board, board.note, text)
        for thing in things_but(plain):
            self.refuses_unchanged(NoText, board, board.note, thing)


class TestRows(BoardCase):
    def test_ordinary(self):
        board = Board(24)
        board.add("fetch", 4)
        board.add("a longer name", 3)
        board.add("eight...", 1)
        board.move(0, 1)
        board.move(1, 2)
        board.move(2, 1)
        board.note("begun")
        self.assertEqual(board.rows(), [
            "begun",
            "fetch   [##........]  25",
            "a longe~[######....]  66",
            "eight...[##########] 100",
        ])

    def test_each_task_is_as_wide_as_the_board(self):
        for width in range(20, 41):
            board = board_of(width, (7, 9))
            board.move(0, 3)
            for number, name, done, total in board.all_tasks():
                row = board.rows()[number]
                self.assertEqual(len(row), width)
                self.assertEqual(row, name.ljust(8) + bar(done, total, width - 12) + " " + percent(done, total))

    def test_names(self):
        board = Board(20)
        for name, told in (("", "        "), ("1234567", "1234567 "), ("12345678", "12345678"), ("123456789", "1234567~"),
                           ("  a", "  a     "), ("x" * 99, "xxxxxxx~")):
            number = board.add(name, 1)
            self.assertEqual(board.rows(), [told + "[......]   0"])
            self.assertEqual(board.all_tasks(), [(number, name, 0, 1)])
            board.drop(number)

    def test_the_last_three_notes(self):
        board = Board(20)
        told = []
        for text in ("one", "two", "three", "four", "four", "five", "six"):
            board.note(text)
            told.append(text)
            self.assertEqual(board.rows(), told[-3:])

    def test_notes_stand_ahead_of_tasks(self):
        board = Board(20)
        board.note("a")
        board.add("task", 1)
        board.note("b")
        self.assertEqual(board.rows(), ["a", "b", "task    [......]   0"])

    def test_notes_are_cut_without_blanks_at_the_end(self):
        board = Board(20)
        for text, told in (("x" * 20, "x" * 20), ("x" * 21, "x" * 19 + "~"), ("x" * 90, "x" * 19 + "~"), ("ab   ", "ab"),
                           ("  ab", "  ab"), ("   ", ""), ("", ""), ("a" + " " * 19, "a"), ("x" * 18 + "   y", "x" * 18 + " ~")):
            board.note(text)
            self.assertEqual(board.rows()[-1], told)
        wide = Board(40)
        wide.note("x" * 40)
        wide.note("x" * 41)
        self.assertEqual(wide.rows(), ["x" * 40, "x" * 39 + "~"])

    def test_a_cut_comes_ahead_of_the_blanks_at_the_end(self):
        board = Board(20)
        board.note("ab" + " " * 30)
        self.assertEqual(board.rows(), ["ab" + " " * 17 + "~"])

    def test_empty_notes_have_rows_too(self):
        board = board_of(20, (1,))
        board.note("")
        board.note("  ")
        self.assertEqual(board.rows(), ["", "", "task 0  [......]   0"])


class TestShow(BoardCase):
    def test_ordinary(self):
        board = Board(20)
        board.add("load", 6)
        self.assertEqual(cost(self.shows(board)), 17)
        self.assertEqual(board.shown()[1][0], "load    [......]   0")
        board.move(0, 1)
        self.shows(board)
        self.assertEqual(board.shown()[1][0], "load    [#.....]  16")
        self.assertEqual(self.shows(board), [])

    def test_nothing_is_shown_before_it_is(self):
        board = board_of(20, (1, 2))
        board.note("note")
        self.assertEqual(board.shown(), blank(20, 12))
        board.show()
        shown = board.shown()
        board.move(0, 1)
        board.drop(1)
        board.note("other")
        board.add("more", 1)
        self.assertEqual(board.shown(), shown)

    def test_a_full_board(self):
        for width in (20, 40):
            board = board_of(width, range(1, 10))
            for text in ("x" * 50, "y" * width, "z"):
                board.note(text)
            self.assertEqual(len(board.rows()), 12)
            self.shows(board)
            for number in range(9):
                board.drop(number)
            self.shows(board)
            self.assertEqual(board.shown()[1][3:], (" " * width,) * 9)

    def test_orders_as_least_tells(self):
        board = board_of(30, (3, 4))
        for turn in range(3):
            board.move(0, 1)
            board.note(f"turn {turn}")
            told = least(board.shown(), board.rows())
            self.assertEqual(cost(board.show()), cost(told))


class TestLists(BoardCase):
    def test_told_lists_are_new_each_time(self):
        board = board_of(30, (3, 4))
        board.note("note")
        before = state(board)
        for told in (board.all_tasks(), board.rows()):
            told.append(None)
            told[0] = None
        self.assertEqual(state(board), before)
        twin = board_of(30, (3, 4))
        twin.note("note")
        orders = board.show()
        self.assertEqual(orders, twin.show())
        orders.clear()
        self.assertEqual(state(board), state(twin))
        none = board.show()
        none.append(("wipe",))
        self.assertEqual(board.show(), [])

    def test_asked_the_same_again(self):
        board = board_of(30, (3, 4))
        board.note("note")
        board.show()
        self.assertEqual(state(board), state(board))

    def test_two_boards_do_not_change_each_other(self):
        one, other = Board(20), Board(20)
        untouched = state(other)
        self.assertEqual(one.add("a", 2), 0)
        one.note("note")
        one.move(0, 1)
        one.show()
        self.assertEqual(state(other), untouched)
        self.assertEqual(other.add("b", 3), 0)
        before = state(one)
        other.move(0, 3)
        other.note("its own")
        other.show()
        other.drop(0)
        self.assertEqual(state(one), before)


class Plain:
    """What a board should hold, written down as plainly as can be."""

    def __init__(self, width):
        self.width, self.notes, self.tasks, self.given = width, [], [], 0

    def rows(self):
        told = [(text if len(text) <= self.width else text[:self.width - 1] + "~").rstrip(" ") for text in self.notes[-3:]]
        for number, name, done, total in self.tasks:
            short = (name if len(name) <= 8 else name[:7] + "~").ljust(8)
            told.append(short + bar(done, total, self.width - 12) + " " + percent(done, total))
        return told

    def deed(self, chance):
        """A deed by chance: what to call, with what, and what it tells, or the class of its refusal."""
        kind = chance.choice(("add", "add", "move", "move", "move", "drop", "note"))
        return getattr(self, "deed_" + kind)(chance)

    def deed_add(self, chance):
        name, total = "n" * chance.randint(0, 10), chance.choice((0, 1, 3, 10, MOST))
        if total == 0:
            return "add", (name, total), NoNumber
        if len(self.tasks) == 9:
            return "add", (name, total), NoRoom
        self.tasks.append((self.given, name, 0, total))
        self.given += 1
        return "add", (name, total), self.given - 1

    def deed_move(self, chance):
        number, by = chance.randint(0, self.given), chance.choice((-1, 0, 1, 2, 5, MOST // 3))
        for spot, task in enumerate(self.tasks):
            if task[0] == number:
                if not 0 <= task[2] + by <= task[3]:
                    return "move", (number, by), NoNumber
                self.tasks[spot] = task[:2] + (task[2] + by, task[3])
                return "move", (number, by), task[2] + by
        return "move", (number, by), NoTask

    def deed_drop(self, chance):
        number = chance.randint(0, self.given)
        for task in self.tasks:
            if task[0] == number:
                self.tasks.remove(task)
                return "drop", (number,), task[2] == task[3]
        return "drop", (number,), NoTask

    def deed_note(self, chance):
        text = chance.choice(("x", " ", "y z", "-")) * chance.randint(0, 45)
        self.notes.append(text)
        return "note", (text,), None


class TestDeeds(BoardCase):
    def test_a_board_shows_what_its_deeds_left(self):
        chance = random.Random(63)
        for width in (20, 21, 30, 39, 40):
            board, model = Board(width), Plain(width)
            for turn in range(150):
                name, given, told = model.deed(chance)
                if isinstance(told, type) and issubclass(told, LineError):
                    self.refuses_unchanged(told, board, getattr(board, name), *given)
                else:
                    self.assertEqual(getattr(board, name)(*given), told)
                self.assertEqual(board.rows(), model.rows())
                self.assertEqual(board.all_tasks(), model.tasks)
                self.assertEqual(board.all_done(), all(task[2] == task[3] for task in model.tasks))
                if chance.random() < 0.3:
                    self.shows(board)
                    self.assertTrue(is_screen(board.shown()))
                    wanted = [row.ljust(width) for row in model.rows()]
                    self.assertEqual(list(board.shown()[1]), wanted + [" " * width] * (12 - len(wanted)))


if __name__ == "__main__":
    unittest.main()
