"""Bars that grow, clocks, and how much time is left."""

from screenlines.errors import NoNumber, NoRoom, NoText
from screenlines.kinds import are_figures, is_within

MOST_COUNT = 1000000000
LEAST_BAR = 3
MOST_BAR = 40
BAR_ENDS = 2
MINUTE = 60
HOUR = 3600
LONGEST_CLOCK = 12
LEAST_MANY = 2
MOST_MANY = 99


def check_total(total):
    if not is_within(total, 1, MOST_COUNT):
        raise NoNumber("a total is a whole number from 1 to 1000000000")


def check_done(done, total):
    check_total(total)
    if not is_within(done, 0, total):
        raise NoNumber("what is done is a whole number from 0 to the total")


def rounded_up(number, divisor):
    return (number + divisor - 1) // divisor


def bar_text(full, room):
    return "[" + "#" * full + "." * (room - full) + "]"


def bar(done, total, width):
    check_done(done, total)
    if not is_within(width, LEAST_BAR, MOST_BAR):
        raise NoRoom("a bar is from 3 to 40 signs wide")
    room = width - BAR_ENDS
    return bar_text(done * room // total, room)


def is_bar(thing):
    if not isinstance(thing, str) or not LEAST_BAR <= len(thing) <= MOST_BAR:
        return False
    return thing == bar_text(thing.count("#"), len(thing) - BAR_ENDS)


def bar_means(text, total):
    if not is_bar(text):
        raise NoText("this is no bar")
    check_total(total)
    room = len(text) - BAR_ENDS
    full = text.count("#")
    low = rounded_up(full * total, room)
    high = min(total, rounded_up((full + 1) * total, room) - 1)
    # A small total leaps over some of the bars that a wide room has.
    if low > high:
        raise NoText("no count of this total has this bar")
    return (low, high)


def percent(done, total):
    check_done(done, total)
    return str(done * 100 // total).rjust(3)


def counted(done, total):
    check_done(done, total)
    return f"{done}/{total}".rjust(len(f"{total}/{total}"))


def two_figures(number):
    return str(number).zfill(2)


def clock(seconds):
    if not is_within(seconds, 0, MOST_COUNT):
        raise NoNumber("a clock has from 0 to 1000000000 seconds")
    end = two_figures(seconds % MINUTE)
    if seconds < HOUR:
        minutes = seconds // MINUTE
        return f"{minutes}:{end}"
    hours = seconds // HOUR
    middle = two_figures(seconds % HOUR // MINUTE)
    return f"{hours}:{middle}:{end}"


def seconds_or_none(thing):
    # A longer text is no clock's, and Python reads no number of some thousand figures.
    if not isinstance(thing, str) or len(thing) > LONGEST_CLOCK:
        return None
    parts = thing.split(":")
    if not all([are_figures(part) for part in parts]):
        return None
    seconds = 0
    for part in parts:
        seconds = seconds * 60 + int(part)
    return seconds


def read_clock(text):
    seconds = seconds_or_none(text)
    # Figures can stand for a time in many ways, but a clock writes it in one alone.
    if not is_within(seconds, 0, MOST_COUNT) or clock(seconds) != text:
        raise NoText("no clock reads so")
    return seconds


def is_sample(thing, total):
    if not isinstance(thing, tuple) or len(thing) != 2:
        return False
    return is_within(thing[0], 0, MOST_COUNT) and is_within(thing[1], 0, total)


def are_samples(thing, total):
    if not isinstance(thing, list) or not all([is_sample(part, total) for part in thing]):
        return False
    return all([one[0] < other[0] and one[1] <= other[1] for one, other in zip(thing, thing[1:])])


def time_left(samples, total, many):
    check_total(total)
    if not is_within(many, LEAST_MANY, MOST_MANY):
        raise NoNumber("from 2 to 99 samples are looked at")
    if not are_samples(samples, total):
        raise NoNumber("these are no samples")
    if len(samples) == 0:
        return None
    first = samples[-many:][0]
    last = samples[-1]
    if last[1] == total:
        return 0
    if last[1] == first[1]:
        return None
    return rounded_up((total - last[1]) * (last[0] - first[0]), last[1] - first[1])
