"""Blanks of a text, and the things that are given for them."""

from tonguehouse.counts import MOST_PLACES
from tonguehouse.kinds import are_rising, are_unlike, is_name, is_number, is_tuple, is_tuple_of, is_word

MOST_BLANKS = 4
LONGEST_WORD = 12
MOST_KINDS = 4
LAST_DAY = (9999, 12, 31)


def are_kinds(thing):
    """Whether it is the kinds that a word may be of."""
    return is_tuple_of(thing, 1, MOST_KINDS, is_name) and are_unlike(thing)


def is_range(thing):
    """Whether it is (low, high, d) as a blank of sort number has."""
    if not is_tuple(thing, 3, 3) or not is_number(thing[0]) or not is_number(thing[2], 0, MOST_PLACES):
        return False
    return is_number(thing[1]) and thing[0] <= thing[1]


def is_blank(thing):
    """Whether it is (name, sort, more) as a blank is."""
    if not is_tuple(thing, 3, 3) or not is_name(thing[0]):
        return False
    sort, more = thing[1:]
    if sort == "number":
        return is_range(more)
    if sort == "word":
        return is_tuple(more, 2, 2) and is_number(more[0], 1, LONGEST_WORD) and are_kinds(more[1])
    return sort == "day" and is_tuple(more, 0, 0)


def are_blanks(thing):
    """Whether it is blanks, whatever it is."""
    return is_tuple_of(thing, 0, MOST_BLANKS, is_blank) and are_rising([name for name, sort, more in thing])


def is_day(thing):
    """Whether it is (y, m, d) as a day is."""
    if not is_tuple(thing, 3, 3) or not is_number(thing[0], 0, LAST_DAY[0]):
        return False
    return is_number(thing[1], 1, LAST_DAY[1]) and is_number(thing[2], 1, LAST_DAY[2])


def is_for(blank, thing):
    """Whether the thing, whatever it is, may be given for the blank."""
    name, sort, more = blank
    if sort == "day":
        return is_day(thing)
    if not is_tuple(thing, 2, 2):
        return False
    if sort == "word":
        most, kinds = more
        return is_word(thing[0], most) and thing[1] in kinds
    low, high, d = more
    return is_number(thing[0], low, high) and is_number(thing[1], d, d)


def are_given(blanks, thing):
    """Whether it is a dict with one thing for each blank and no other, whatever it is."""
    if not isinstance(thing, dict) or len(thing) != len(blanks):
        return False
    return all([blank[0] in thing and is_for(blank, thing[blank[0]]) for blank in blanks])
