"""Screens, and the rows that they can show.

A screen is a tuple (width, rows, place), its place a tuple (row, column).
"""

from screenlines.errors import NoRoom, NoScreen
from screenlines.kinds import is_plain, is_within

MOST_WIDTH = 40
MOST_ROWS = 12


def are_full_rows(thing, width):
    if not isinstance(thing, tuple) or not 1 <= len(thing) <= MOST_ROWS:
        return False
    return all([is_plain(row) and len(row) == width for row in thing])


def is_place(thing, width, many):
    if not isinstance(thing, tuple) or len(thing) != 2:
        return False
    # The place may stand behind the last sign, so the width itself is a column.
    return is_within(thing[0], 0, many - 1) and is_within(thing[1], 0, width)


def is_screen(thing):
    if not isinstance(thing, tuple) or len(thing) != 3:
        return False
    width = thing[0]
    if not is_within(width, 1, MOST_WIDTH) or not are_full_rows(thing[1], width):
        return False
    return is_place(thing[2], width, len(thing[1]))


def check_screen(thing):
    if not is_screen(thing):
        raise NoScreen("this is no screen")


def blank(width, many):
    if not is_within(width, 1, MOST_WIDTH) or not is_within(many, 1, MOST_ROWS):
        raise NoRoom("no screen has this size")
    return (width, (" " * width,) * many, (0, 0))


def shown(screen):
    check_screen(screen)
    return [row.rstrip(" ") for row in screen[1]]


def are_rows(screen, thing):
    check_screen(screen)
    if not isinstance(thing, list) or len(thing) > len(screen[1]):
        return False
    return all([is_plain(row) and len(row) <= screen[0] for row in thing])


def check_rows(screen, thing):
    if not are_rows(screen, thing):
        raise NoScreen("these are no rows that the screen can show")


# Rows to be shown may leave out blanks; laid side by side with a screen's own they may not.
def full_rows(screen, rows):
    width = screen[0]
    missing = len(screen[1]) - len(rows)
    return [row.ljust(width) for row in rows] + [" " * width] * missing


def unlike_spots(screen, rows):
    check_rows(screen, rows)
    spots = []
    for number, row in enumerate(full_rows(screen, rows)):
        own = screen[1][number]
        spots.extend([(number, column) for column in range(screen[0]) if own[column] != row[column]])
    return spots
