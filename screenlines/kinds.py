"""Whole numbers and plain texts, told from any other thing."""

from screenlines.errors import NoText

FIGURES = "0123456789"


def is_whole(thing):
    # Python counts truths among its ints; here they are no numbers.
    return isinstance(thing, int) and not isinstance(thing, bool)


def is_within(thing, low, high):
    return is_whole(thing) and low <= thing <= high


def is_plain(thing):
    return isinstance(thing, str) and all([" " <= sign <= "~" for sign in thing])


def check_plain(thing):
    if not is_plain(thing):
        raise NoText("this is no plain text")


def are_figures(text):
    return text != "" and all([sign in FIGURES for sign in text])
