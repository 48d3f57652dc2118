"""Measures: how wide signs are, and how a text is laid in a room."""

from tonguehouse.kinds import FIGURES, is_number, is_text, is_tuple, is_tuple_of

MOST_PAIRS = 6
GREATEST_WIDE = 4
PLAIN_WIDE = 1
WIDEST_ROOM = 200
MOST_LINES = 6


def is_pair(thing):
    """Whether it is (signs, wide) as a measure has them."""
    if not is_tuple(thing, 2, 2) or not is_text(thing[0]) or not is_number(thing[1], 0, GREATEST_WIDE):
        return False
    held = [figure in thing[0] for figure in FIGURES]
    return all(held) or not any(held)


def is_measure(thing):
    """Whether it is a measure, whatever it is."""
    if not is_tuple_of(thing, 0, MOST_PAIRS, is_pair):
        return False
    # A sign may stand twice in one text, but not in two: then it would count once less in all than in each.
    each = sum([len(set(signs)) for signs, wide in thing])
    return each == len(set("".join([signs for signs, wide in thing])))


def sign_widths(measure):
    """How wide each sign is of which the measure tells it."""
    return {sign: wide for signs, wide in measure for sign in signs}


def width_by(widths, text):
    """How wide a text is by the widths of signs."""
    return sum([widths.get(sign, PLAIN_WIDE) for sign in text])


def width(measure, text):
    """How wide the text is."""
    return width_by(sign_widths(measure), text)


def is_room(thing):
    """Whether it is (wide, rows) as a room is."""
    return is_tuple(thing, 2, 2) and is_number(thing[0], 1, WIDEST_ROOM) and is_number(thing[1], 1, MOST_LINES)


def laid(measure, wide, text):
    """The lines of the text in so wide a room, or None where a word alone is wider."""
    widths = sign_widths(measure)
    blank = width_by(widths, " ")
    lines = []
    taken = 0
    for word in text.split(" "):
        own = width_by(widths, word)
        if own > wide:
            return None
        if lines and taken + blank + own <= wide:
            lines[-1].append(word)
            taken += blank + own
        else:
            lines.append([word])
            taken = own
    return tuple([" ".join(words) for words in lines])


def fits(measure, room, text):
    """Whether the text has lines in the room, and not too many."""
    wide, rows = room
    lines = laid(measure, wide, text)
    return lines is not None and len(lines) <= rows
