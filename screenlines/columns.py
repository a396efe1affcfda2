"""Room shared out among columns, and texts cut, filled and wrapped to a width."""

from screenlines.errors import NoNumber, NoRoom
from screenlines.kinds import check_plain, is_within
from screenlines.screens import MOST_WIDTH

MOST_WISH = 99
MOST_SHARED = 999
SIDES = ("<", ">", "^")
CUT_MARK = "~"


def is_side(thing):
    return thing in SIDES


def are_wishes(thing):
    return isinstance(thing, (list, tuple)) and all([is_within(wish, 0, MOST_WISH) for wish in thing])


def shares(wishes, room):
    given = [0 for wish in wishes]
    left = min(room, sum(wishes))
    # All that still wish for more have the same at the beginning of a round,
    # so it is the turn of each of them, the first one first.
    while left > 0:
        for number, wish in enumerate(wishes):
            if left > 0 and given[number] < wish:
                given[number] += 1
                left -= 1
    return given


def shared_out(wishes, room):
    if not are_wishes(wishes):
        raise NoNumber("wishes are whole numbers from 0 to 99")
    if not is_within(room, 0, MOST_SHARED):
        raise NoRoom("a room to be shared out is from 0 to 999 signs wide")
    return shares(wishes, room)


def check_width(width):
    if not is_within(width, 1, MOST_WIDTH):
        raise NoRoom("a width is from 1 to 40 signs")


def cut(text, width):
    check_plain(text)
    check_width(width)
    if len(text) <= width:
        return text
    return text[:width - 1] + CUT_MARK


def filled_to(text, width, side):
    short = cut(text, width)
    if not is_side(side):
        raise NoNumber("there is no such side")
    if side == "<":
        return short.ljust(width)
    if side == ">":
        return short.rjust(width)
    ahead = (width - len(short)) // 2
    return (" " * ahead + short).ljust(width)


def pieces(word, width):
    return [word[begin:begin + width] for begin in range(0, len(word), width)]


def wrapped(text, width):
    check_plain(text)
    check_width(width)
    rows = []
    for word in [part for part in text.split(" ") if part != ""]:
        if len(rows) > 0 and len(rows[-1]) + 1 + len(word) <= width:
            rows[-1] = rows[-1] + " " + word
        else:
            rows.extend(pieces(word, width))
    return rows
