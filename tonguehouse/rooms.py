"""The widest of what pieces may say, the most lines of it, and whether all of it fits a room.

What is given for a blank is said without a blank, so the words of a text stay the same in number while every blank
chooses the same words. So of all numbers, words and days that choose alike the widest one is enough.
"""

from tonguehouse.blanks import LAST_DAY
from tonguehouse.covers import last_of_each
from tonguehouse.kinds import LETTERS
from tonguehouse.measures import PLAIN_WIDE, fits, laid, sign_widths, width
from tonguehouse.pieces import names_in
from tonguehouse.sayings import spoken


def widest_letter(measure):
    """A small letter than which no other one is wider."""
    widths = sign_widths(measure)
    return max(LETTERS, key=lambda letter: widths.get(letter, PLAIN_WIDE))


def widest_things(measure, forms, blank, chooses):
    """(word, thing): the widest thing for the blank, or, where it chooses in a by, that for each word it may choose."""
    name, sort, more = blank
    if sort == "day":
        return [("", LAST_DAY)]
    if sort == "word":
        most, kinds = more
        text = widest_letter(measure) * most
        return [(kind, (text, kind)) for kind in (kinds if chooses else kinds[:1])]
    low, high, d = more
    if not chooses:
        return [("", (high, d))]
    return [(word, (n, d)) for word, n in last_of_each(forms, low, high, d).items()]


def widest_given(measure, tongue, blanks, pieces):
    """(given, words) for all that blanks may choose together: the widest things of each, and the words they choose."""
    choosing = names_in(pieces, "by")
    rows = [({}, {})]
    for blank in blanks:
        name = blank[0]
        things = widest_things(measure, tongue[0], blank, name in choosing)
        rows = [
            ({**given, name: thing}, {**words, name: word})
            for given, words in rows for word, thing in things
        ]
    return rows


def widest(measure, tongue, blanks, pieces):
    """(wide, given): the greatest width of what is said, and given things that reach it."""
    most = (-1, {})
    for given, words in widest_given(measure, tongue, blanks, pieces):
        wide = width(measure, spoken(tongue[1], pieces, given, words))
        if wide > most[0]:
            most = (wide, given)
    return most


def rows_of(measure, tongue, blanks, pieces, wide):
    """(rows, given): the most lines of what is said in so wide a room, None where there are none for some given."""
    most = (0, {})
    for given, words in widest_given(measure, tongue, blanks, pieces):
        lines = laid(measure, wide, spoken(tongue[1], pieces, given, words))
        if lines is None:
            return (None, given)
        if len(lines) > most[0]:
            most = (len(lines), given)
    return most


def in_room(measure, tongue, blanks, pieces, room):
    """True where what is said fits the room for all given things, else such things for which it does not."""
    for given, words in widest_given(measure, tongue, blanks, pieces):
        if not fits(measure, room, spoken(tongue[1], pieces, given, words)):
            return given
    return True
