"""Parts of screens, taken out, laid on, and scrolled; and texts in a box."""

from screenlines.errors import NoNumber, NoRoom, NoText
from screenlines.kinds import is_plain, is_within
from screenlines.screens import MOST_ROWS, check_screen

MOST_BOXED = 10
MOST_BOXED_WIDTH = 38


def is_stretch(begin, many, room):
    return is_within(begin, 0, room - 1) and is_within(many, 1, room - begin)


def check_part(screen, top, left, high, wide):
    if not is_stretch(top, high, len(screen[1])) or not is_stretch(left, wide, screen[0]):
        raise NoRoom("the screen does not have all of this part")


def part_of(screen, top, left, high, wide):
    check_screen(screen)
    check_part(screen, top, left, high, wide)
    rows = [row[left:left + wide] for row in screen[1][top:top + high]]
    return (wide, tuple(rows), (0, 0))


def laid_on(screen, top, left, other):
    check_screen(screen)
    check_screen(other)
    check_part(screen, top, left, len(other[1]), other[0])
    right = left + other[0]
    rows = list(screen[1])
    for number, row in enumerate(other[1], start=top):
        rows[number] = rows[number][:left] + row + rows[number][right:]
    return (screen[0], tuple(rows), screen[2])


def row_or_blank(screen, number):
    # Asked ahead of the index: one below 0 would count from the end.
    if 0 <= number < len(screen[1]):
        return screen[1][number]
    return " " * screen[0]


def scrolled(screen, by):
    check_screen(screen)
    if not is_within(by, -MOST_ROWS, MOST_ROWS):
        raise NoNumber("a screen is scrolled by -12 to 12 rows")
    rows = [row_or_blank(screen, number + by) for number in range(len(screen[1]))]
    return (screen[0], tuple(rows), screen[2])


def can_be_boxed(thing):
    if not isinstance(thing, (list, tuple)) or not 1 <= len(thing) <= MOST_BOXED:
        return False
    return all([is_plain(text) and len(text) <= MOST_BOXED_WIDTH for text in thing])


def boxed(texts):
    if not can_be_boxed(texts):
        raise NoText("these are no texts that a box is drawn round")
    width = max([len(text) for text in texts])
    edge = "+" + "-" * width + "+"
    return [edge] + ["|" + text.ljust(width) + "|" for text in texts] + [edge]
