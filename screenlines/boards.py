"""Boards: notes and tasks, shown anew by the orders of the least cost.

A task is a tuple (number, name, done, total).
"""

from screenlines.bars import bar, check_done, check_total, percent
from screenlines.columns import cut, filled_to
from screenlines.errors import NoNumber, NoRoom, NoTask
from screenlines.kinds import check_plain, is_whole, is_within
from screenlines.least import least
from screenlines.orders import all_done
from screenlines.screens import MOST_ROWS, MOST_WIDTH, blank

LEAST_BOARD = 20
MOST_TASKS = 9
SHOWN_NOTES = 3
NAME_WIDTH = 8
BESIDE_BAR = 12


def is_done(task):
    return task[2] == task[3]


def task_row(task, width):
    name = filled_to(task[1], NAME_WIDTH, "<")
    return name + bar(task[2], task[3], width - BESIDE_BAR) + " " + percent(task[2], task[3])


class Board:
    def __init__(self, width):
        if not is_within(width, LEAST_BOARD, MOST_WIDTH):
            raise NoRoom("a board is from 20 to 40 signs wide")
        self.width = width
        self.screen = blank(width, MOST_ROWS)
        self.last_notes = []
        self.tasks = {}
        # Counted apart from the tasks, so that the number of a dropped one does not come again.
        self.numbers_given = 0

    def add(self, name, total):
        check_plain(name)
        check_total(total)
        if len(self.tasks) >= MOST_TASKS:
            raise NoRoom("a board has 9 tasks at most")
        number = self.numbers_given
        self.tasks[number] = (number, name, 0, total)
        self.numbers_given += 1
        return number

    def task_of(self, number):
        # Asked first whether it is a whole number: a dict takes a truth for 0 or 1, and no list at all.
        if not is_whole(number) or number not in self.tasks:
            raise NoTask("there is no such task")
        return self.tasks[number]

    def move(self, number, by):
        task = self.task_of(number)
        if not is_whole(by):
            raise NoNumber("a task is moved by a whole number")
        count = task[2] + by
        check_done(count, task[3])
        self.tasks[number] = (number, task[1], count, task[3])
        return count

    def drop(self, number):
        task = self.task_of(number)
        self.tasks.pop(number)
        return is_done(task)

    def note(self, text):
        check_plain(text)
        self.last_notes = (self.last_notes + [text])[-SHOWN_NOTES:]

    def all_tasks(self):
        return list(self.tasks.values())

    def all_done(self):
        return all([is_done(task) for task in self.tasks.values()])

    def rows(self):
        notes = [cut(text, self.width).rstrip(" ") for text in self.last_notes]
        return notes + [task_row(task, self.width) for task in self.tasks.values()]

    def shown(self):
        return self.screen

    def show(self):
        orders = least(self.screen, self.rows())
        self.screen = all_done(self.screen, orders)
        return orders
