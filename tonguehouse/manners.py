"""Manners: how a tongue writes counts, days and quotes."""

from tonguehouse.counts import scale_of
from tonguehouse.kinds import FIGURES, is_text, is_tuple, is_tuple_of

LONGEST_DAY = 12
LONGEST_QUOTE = 2


def is_blankless(thing, least, most):
    """Whether it is a text of least to most signs, none of them a blank."""
    return is_text(thing, least, most) and " " not in thing


def is_mark(thing, least):
    """Whether it is a text that may stand among figures: of one sign, or none where least is 0."""
    return is_blankless(thing, least, 1) and not any([figure in thing for figure in FIGURES])


def is_quote(thing):
    """Whether it is a text that may stand at one end of a quote."""
    return is_blankless(thing, 0, LONGEST_QUOTE)


def is_manner(thing):
    """Whether it is (group, point, day, quotes) as a manner is, whatever it is."""
    if not is_tuple(thing, 4, 4):
        return False
    group, point, day, quotes = thing
    if not is_mark(group, 0) or not is_mark(point, 1) or group == point:
        return False
    return is_blankless(day, 1, LONGEST_DAY) and is_tuple_of(quotes, 2, 2, is_quote)


def said_count(manner, count):
    """The count as the manner writes it."""
    group, point, day, quotes = manner
    n, places = count
    whole, rest = divmod(n, scale_of(places))
    grouped = f"{whole:,}".replace(",", group)
    if places == 0:
        return grouped
    return grouped + point + str(rest).zfill(places)


def said_day(manner, day):
    """The day as the manner writes it."""
    y, m, d = day
    figures = {
        "y": str(y), "m": str(m), "d": str(d),
        "Y": str(y).zfill(4), "M": str(m).zfill(2), "D": str(d).zfill(2),
    }
    return "".join([figures.get(sign, sign) for sign in manner[2]])
