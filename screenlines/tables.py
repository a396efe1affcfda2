"""Tables: named columns that share out a room, and rows of texts in them."""

from screenlines.columns import filled_to, is_side, shares
from screenlines.errors import NoRoom, NoTable
from screenlines.kinds import is_plain, is_within
from screenlines.screens import MOST_WIDTH

MOST_COLUMNS = 6
MOST_TABLE_ROWS = 9


def is_column(thing):
    return isinstance(thing, tuple) and len(thing) == 2 and is_plain(thing[0]) and is_side(thing[1])


def are_columns(thing):
    if not isinstance(thing, tuple) or not 1 <= len(thing) <= MOST_COLUMNS:
        return False
    return all([is_column(part) for part in thing])


def is_table_row(thing, many):
    return isinstance(thing, tuple) and len(thing) == many and all([is_plain(text) for text in thing])


def is_table(columns, rows):
    if not are_columns(columns) or not isinstance(rows, list) or len(rows) > MOST_TABLE_ROWS:
        return False
    return all([is_table_row(row, len(columns)) for row in rows])


def check_table(columns, rows):
    if not is_table(columns, rows):
        raise NoTable("this is no table")


def column_wish(columns, rows, number):
    texts = [columns[number][0]] + [row[number] for row in rows]
    return max([1] + [len(text) for text in texts])


def widths(columns, rows, room):
    check_table(columns, rows)
    many = len(columns)
    gaps = many - 1
    if not is_within(room, many + gaps, MOST_WIDTH):
        raise NoRoom("a table does not go into this room")
    # A text may be wider than what may be wished for in shared_out, and is no reason to refuse the table.
    return shares([column_wish(columns, rows, number) for number in range(many)], room - gaps)


def fitted(columns, sizes, texts):
    return " ".join([filled_to(text, size, column[1]) for column, size, text in zip(columns, sizes, texts)])


def table(columns, rows, room):
    sizes = widths(columns, rows, room)
    names = [column[0] for column in columns]
    line = " ".join(["-" * size for size in sizes])
    return [fitted(columns, sizes, names), line] + [fitted(columns, sizes, row) for row in rows]


def sorted_by(columns, rows, place):
    check_table(columns, rows)
    if not is_within(place, 0, len(columns) - 1):
        raise NoTable("there is no such column")
    return sorted(rows, key=lambda row: row[place])
