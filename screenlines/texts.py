"""Orders written as texts, one a line, and read back."""

from screenlines.errors import NoText
from screenlines.kinds import are_figures
from screenlines.orders import check_order, check_orders, is_order

MOST_FIGURES = 2


def spot_text(row, column):
    return f"{row} {column}"


def is_short_number(text):
    # Python reads no number of some thousand figures, and no row or column has more than two.
    return are_figures(text) and len(text) <= MOST_FIGURES


def spot_or_none(text):
    parts = text.split(" ")
    if len(parts) != 2 or not all([is_short_number(part) for part in parts]):
        return None
    return (int(parts[0]), int(parts[1]))


def lines_of(thing):
    if not isinstance(thing, str) or (thing != "" and not thing.endswith("\n")):
        raise NoText("this is no text of lines that are each ended by a line feed")
    return thing.split("\n")[:-1]


def order_text(order):
    check_order(order)
    if order[0] == "say":
        return "say " + order[1]
    if order[0] == "go":
        return "go " + spot_text(order[1], order[2])
    return "wipe"


def orders_text(orders):
    check_orders(orders)
    return "".join([order_text(order) + "\n" for order in orders])


def order_or_none(line):
    parts = line.partition(" ")
    if parts[0] == "say":
        return ("say", parts[2])
    if parts[0] == "go":
        spot = spot_or_none(parts[2])
        return None if spot is None else ("go", spot[0], spot[1])
    return ("wipe",)


def read_order(line):
    order = order_or_none(line)
    # Several lines may look like one order, but it is written in one way alone.
    if not is_order(order) or order_text(order) != line:
        raise NoText("no order is written so")
    return order


def read_orders(text):
    return [read_order(line) for line in lines_of(text)]
