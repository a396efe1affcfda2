"""Orders: what they are, what they do to a screen, and what they cost."""

from screenlines.errors import NoOrder, NoRoom
from screenlines.kinds import is_plain, is_within
from screenlines.screens import MOST_ROWS, MOST_WIDTH, check_screen

MOST_SAID = 40
GO_COST = 2
WIPE_COST = 1


def is_say(thing):
    return len(thing) == 2 and thing[0] == "say" and is_plain(thing[1]) and 1 <= len(thing[1]) <= MOST_SAID


def is_go(thing):
    if len(thing) != 3 or thing[0] != "go":
        return False
    return is_within(thing[1], 0, MOST_ROWS - 1) and is_within(thing[2], 0, MOST_WIDTH)


def is_order(thing):
    if not isinstance(thing, tuple):
        return False
    return is_say(thing) or is_go(thing) or thing == ("wipe",)


def check_order(thing):
    if not is_order(thing):
        raise NoOrder("this is no order")


def check_orders(thing):
    if not isinstance(thing, list):
        raise NoOrder("this is no list of orders")
    for order in thing:
        check_order(order)


def with_row_at_place(screen, row, column):
    number = screen[2][0]
    rows = screen[1][:number] + (row,) + screen[1][number + 1:]
    return (screen[0], rows, (number, column))


def after_say(screen, text):
    row = screen[1][screen[2][0]]
    begin = screen[2][1]
    end = begin + len(text)
    if end > screen[0]:
        raise NoRoom("the text is wider than what is left of the row")
    return with_row_at_place(screen, row[:begin] + text + row[end:], end)


def after_go(screen, number, column):
    if number >= len(screen[1]) or column > screen[0]:
        raise NoRoom("the screen does not have this place")
    return (screen[0], screen[1], (number, column))


def after_wipe(screen):
    row = screen[1][screen[2][0]]
    column = screen[2][1]
    return with_row_at_place(screen, row[:column].ljust(screen[0]), column)


def after_order(screen, order):
    if order[0] == "say":
        return after_say(screen, order[1])
    if order[0] == "go":
        return after_go(screen, order[1], order[2])
    return after_wipe(screen)


def done(screen, order):
    check_screen(screen)
    check_order(order)
    return after_order(screen, order)


def all_done(screen, orders):
    check_screen(screen)
    # All are looked at before any is done, so that NoOrder comes ahead of any NoRoom.
    check_orders(orders)
    current = screen
    for order in orders:
        current = after_order(current, order)
    return current


def order_cost(order):
    if order[0] == "say":
        return len(order[1])
    if order[0] == "go":
        return GO_COST
    return WIPE_COST


def cost(orders):
    check_orders(orders)
    return sum([order_cost(order) for order in orders])


def joined_or_none(one, other):
    if one[0] != other[0]:
        return None
    if one[0] != "say":
        return other
    text = one[1] + other[1]
    return ("say", text) if len(text) <= MOST_SAID else None


def shortened(orders):
    check_orders(orders)
    short = []
    for order in orders:
        both = joined_or_none(short[-1], order) if len(short) > 0 else None
        if both is None:
            short.append(order)
        else:
            # A joined order is never shorter than its first part, so it can't
            # now go together with the one ahead where that part could not.
            short[-1] = both
    return short
