"""Terms, and what may be wrong with pieces that are told for a source in a tongue."""

from tonguehouse.blanks import are_given
from tonguehouse.kinds import is_just, is_text, is_tuple, is_tuple_of
from tonguehouse.measures import fits
from tonguehouse.pieces import are_pieces, kind_of, lacks, placed, used
from tonguehouse.rooms import in_room
from tonguehouse.sayings import said

MOST_TERMS = 6
LONGEST_TERM = 12
NO_PIECES = (("pieces",),)


def is_term_text(thing):
    """Whether it is a text that may stand in a term."""
    return is_text(thing, 1, LONGEST_TERM)


def is_term(thing):
    """Whether it is a pair of such texts."""
    return is_tuple_of(thing, 2, 2, is_term_text)


def are_terms(thing):
    """Whether it is terms, whatever it is."""
    return is_tuple_of(thing, 0, MOST_TERMS, is_term)


def stands_in(text, pieces):
    """Whether the text is part of one of the texts in the pieces, at any depth."""
    return any([text in piece for path, piece in placed(pieces, ()) if kind_of(piece) == "text"])


def unmet_terms(terms, source_pieces, pieces):
    """The numbers of the terms whose first text stands in the source's pieces, while the second does not in these."""
    return [
        k for k, (first, second) in enumerate(terms)
        if stands_in(first, source_pieces) and not stands_in(second, pieces)
    ]


def faults_but_room(tongue, terms, source, pieces):
    """All faults but that of the room, one behind another."""
    name, blanks, source_pieces, room = source
    if not are_pieces(blanks, pieces):
        return NO_PIECES
    found = [("lacks", path) for path in lacks(tongue[0], blanks, pieces)]
    found += [("blank", blank) for blank in sorted(set(used(source_pieces)) ^ set(used(pieces)))]
    found += [("term", k) for k in unmet_terms(terms, source_pieces, pieces)]
    return tuple(found)


def faults(measure, tongue, terms, source, pieces):
    """What is wrong with the pieces, whatever they are, as a telling of the source: () where nothing is."""
    found = faults_but_room(tongue, terms, source, pieces)
    if found:
        return found
    name, blanks, source_pieces, room = source
    told = in_room(measure, tongue, blanks, pieces, room)
    return () if told is True else (("room", told),)


def is_beyond_room(measure, tongue, source, pieces, thing):
    """Whether it is ("room", given), whatever it is, with given things for which what is said does not fit."""
    name, blanks, source_pieces, room = source
    if not is_tuple(thing, 2, 2) or thing[0] != "room" or not are_given(blanks, thing[1]):
        return False
    return not fits(measure, room, said(tongue, pieces, thing[1]))


def is_fault(measure, tongue, terms, source, pieces, thing):
    """Whether it is, whatever it is, one of the faults of the pieces, a room's one with any such given things."""
    found = faults_but_room(tongue, terms, source, pieces)
    if found:
        return any([is_just(fault, thing) for fault in found])
    return is_beyond_room(measure, tongue, source, pieces, thing)
