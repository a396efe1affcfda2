"""Stretches: what is unlike on a screen, how it was scrolled, and texts as runs of one sign."""

from screenlines.errors import NoScreen, NoText
from screenlines.kinds import check_plain, is_plain, is_within
from screenlines.screens import check_screen, unlike_spots
from screenlines.windows import scrolled

MOST_RUNS = 99
LONGEST_RUN = 99


def is_right_behind(span, spot):
    return span[0] == spot[0] and span[1] + span[2] == spot[1]


def spans(screen, rows):
    found = []
    for spot in unlike_spots(screen, rows):
        if len(found) > 0 and is_right_behind(found[-1], spot):
            last = found[-1]
            found[-1] = (last[0], last[1], last[2] + 1)
        else:
            found.append((spot[0], spot[1], 1))
    return found


def check_same_size(one, other):
    check_screen(one)
    check_screen(other)
    if one[0] != other[0] or len(one[1]) != len(other[1]):
        raise NoScreen("these screens are not of one size")


def alike_rows(one, other):
    check_same_size(one, other)
    return [number for number, row in enumerate(one[1]) if row == other[1][number]]


def is_blank(row):
    return row.strip(" ") == ""


def alike_behind_scroll(one, other, by):
    # A row that comes in blank is alike to a blank one alone, so leaving those out is enough.
    both = alike_rows(scrolled(one, by), other)
    return len([number for number in both if not is_blank(other[1][number])])


def scroll_by(one, other):
    check_same_size(one, other)
    most = len(one[1]) - 1
    tried = list(range(-most, most + 1))
    return max(tried, key=lambda by: (alike_behind_scroll(one, other, by), -abs(by), -by))


def runs_of(text):
    check_plain(text)
    runs = []
    for sign in text:
        if len(runs) > 0 and runs[-1][0] == sign:
            runs[-1] = (sign, runs[-1][1] + 1)
        else:
            runs.append((sign, 1))
    return runs


def is_run(thing):
    if not isinstance(thing, tuple) or len(thing) != 2:
        return False
    return is_plain(thing[0]) and len(thing[0]) == 1 and is_within(thing[1], 1, LONGEST_RUN)


def are_runs(thing):
    if not isinstance(thing, (list, tuple)) or len(thing) > MOST_RUNS:
        return False
    return all([is_run(part) for part in thing])


def of_runs(some):
    if not are_runs(some):
        raise NoText("these are no runs")
    return "".join([run[0] * run[1] for run in some])
