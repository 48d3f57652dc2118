"""Sources and editions of a program, and the lines in which sources stay the same."""

from tonguehouse.blanks import are_blanks
from tonguehouse.kinds import are_rising, are_unlike, is_name, is_number, is_tuple, is_tuple_of
from tonguehouse.measures import is_room
from tonguehouse.pieces import are_pieces

MOST_SOURCES = 8


def is_source(thing):
    """Whether it is (name, blanks, pieces, room) as a source is."""
    if not is_tuple(thing, 4, 4):
        return False
    name, blanks, pieces, room = thing
    return is_name(name) and are_blanks(blanks) and are_pieces(blanks, pieces) and is_room(room)


def is_renaming(thing):
    """Whether it is (old, new) of two names."""
    return is_tuple_of(thing, 2, 2, is_name)


def are_renamed(thing):
    """Whether it is a rising tuple of renamings, no old and no new name twice."""
    if not isinstance(thing, tuple) or not all([is_renaming(pair) for pair in thing]):
        return False
    return are_rising(thing) and are_unlike([old for old, new in thing]) and are_unlike([new for old, new in thing])


def is_edition(thing):
    """Whether it is an edition, whatever it is."""
    if not is_tuple(thing, 2, 2) or not is_tuple_of(thing[0], 1, MOST_SOURCES, is_source):
        return False
    return are_rising([source[0] for source in thing[0]]) and are_renamed(thing[1])


def like(one, other):
    """How alike two sources are: "same", "words" where only the blanks are the same, else "blanks"."""
    if one[1] != other[1]:
        return "blanks"
    return "same" if one[2] == other[2] else "words"


def has_edition(editions, e):
    """Whether there is an edition of this number."""
    return is_number(e, 0, len(editions) - 1)


def source_in(edition, name):
    """The source of this name in the edition, or None."""
    for source in edition[0]:
        if source[0] == name:
            return source
    return None


def elder_of(editions, e, name):
    """The elder of the source of this name in edition e, or None."""
    if e == 0:
        return None
    renamed = editions[e][1]
    for old, new in renamed:
        if new == name:
            return source_in(editions[e - 1], old)
    if name in [old for old, new in renamed]:
        return None
    return source_in(editions[e - 1], name)


def line_of(editions, e, name):
    """(first edition, name there) of the line of the source, None where there is no such source."""
    source = source_in(editions[e], name) if has_edition(editions, e) else None
    if source is None:
        return None
    first = e
    elder = elder_of(editions, first, source[0])
    while elder is not None and like(elder, source) == "same":
        first -= 1
        source = elder
        elder = elder_of(editions, first, source[0])
    return (first, source[0])


def in_line(editions, line):
    """(edition, name) of all sources of the line, rising."""
    places = [(e, source[0]) for e, edition in enumerate(editions) for source in edition[0]]
    return tuple([(e, name) for e, name in places if line_of(editions, e, name) == line])


def news_of(editions, e, source):
    """What became of a source in its edition: "new", or what like says of its elder and it."""
    elder = elder_of(editions, e, source[0])
    return "new" if elder is None else like(elder, source)


def news(editions, e):
    """(name, word) for each source of edition e, rising."""
    if not has_edition(editions, e):
        return ()
    return tuple([(source[0], news_of(editions, e, source)) for source in editions[e][0]])
