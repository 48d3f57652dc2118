"""What may be wrong with the things a house is made of, and with a deed: each refusal in the order told."""

from tonguehouse.counts import is_forms
from tonguehouse.covers import cover
from tonguehouse.editions import is_edition, line_of
from tonguehouse.errors import (
    BadEdition, BadFalls, BadMeasure, BadName, BadRights, BadSource, BadTerms, BadTongue, Faulty, Full, Looked, NoCover,
    NoRight, NoSource, NotLet, NoTelling, Own, Taken, Unknown,
)
from tonguehouse.faults import NO_PIECES, are_terms, faults
from tonguehouse.kinds import are_unlike, is_name, is_tuple, is_tuple_of
from tonguehouse.manners import is_manner
from tonguehouse.measures import is_measure
from tonguehouse.moments import has_telling, has_tongue, kept_pieces, rights_of, source_at
from tonguehouse.pieces import are_pieces

MOST_FALLS = 5
MOST_TONGUES = 6
MOST_EDITIONS = 8
MOST_RIGHTS = 12
RIGHTS = ("tell", "look")


def refuse_name(name):
    """Refuse what is no name."""
    if not is_name(name):
        raise BadName("it is no name")


def refuse_tongue(tongue):
    """Refuse what is no tongue, or does not give each count just one form."""
    if not is_tuple(tongue, 2, 2) or not is_forms(tongue[0]) or not is_manner(tongue[1]):
        raise BadTongue("it is no pair of forms and a manner")
    paper = cover(tongue[0])
    if paper != ("just",):
        raise NoCover(paper)


def refuse_edition(measure, tongue, edition):
    """Refuse what is no edition, or has a source with faults by the own tongue."""
    if not is_edition(edition):
        raise BadEdition("it is no edition")
    for source in edition[0]:
        if faults(measure, tongue, (), source, source[2]):
            raise BadSource(source[0])


def refuse_made(measure, name, tongue, edition):
    """Refuse what no house can be made of."""
    if not is_measure(measure):
        raise BadMeasure("it is no measure")
    refuse_name(name)
    refuse_tongue(tongue)
    refuse_edition(measure, tongue, edition)


def refuse_strangers(moment, names):
    """Refuse the first name of which there is no tongue."""
    for name in names:
        if not has_tongue(moment, name):
            raise Unknown(name)


def are_falls(moment, name, falls):
    """Whether it may be the fallbacks of a tongue of this name, whether they are there aside."""
    if not is_tuple_of(falls, 0, MOST_FALLS, is_name) or not are_unlike(falls):
        return False
    return name not in falls and moment.own not in falls


def refuse_new_tongue(moment, name, tongue, falls, terms):
    """Refuse a further tongue."""
    refuse_name(name)
    if has_tongue(moment, name):
        raise Taken(name)
    refuse_tongue(tongue)
    if not are_falls(moment, name, falls):
        raise BadFalls("they are no fallbacks")
    refuse_strangers(moment, falls)
    if not are_terms(terms):
        raise BadTerms("they are no terms")
    if len(moment.tongues) >= MOST_TONGUES:
        raise Full("there are as many tongues as there may be")


def is_right(thing):
    """Whether it is (word, name) as a right is."""
    return is_tuple(thing, 2, 2) and thing[0] in RIGHTS and is_name(thing[1])


def refuse_new_rights(moment, name, rights):
    """Refuse the rights of a name."""
    refuse_name(name)
    if not is_tuple_of(rights, 0, MOST_RIGHTS, is_right):
        raise BadRights("they are no rights")
    refuse_strangers(moment, [tongue for word, tongue in rights])


def refuse_new_edition(moment, edition):
    """Refuse a further edition."""
    refuse_edition(moment.measure, moment.tongues[moment.own][0], edition)
    if len(moment.editions) >= MOST_EDITIONS:
        raise Full("there are as many editions as there may be")


def may(moment, hand, word, tongue):
    """Whether the hand, whatever it is, has this right in the tongue."""
    return (word, tongue) in rights_of(moment, hand)


def is_telling_of(moment, tongue, line, number):
    """Whether it is, whatever it is, the number of a telling of this tongue and line."""
    if not has_telling(moment, number):
        return False
    telling = moment.tellings[number]
    return telling.tongue == tongue and telling.line == line


def refuse_tell(moment, hand, tongue, e, name, pieces, base):
    """Refuse a telling."""
    if not has_tongue(moment, tongue) or tongue == moment.own:
        raise Unknown(tongue)
    source = source_at(moment, e, name)
    if source is None:
        raise NoSource("there is no such source")
    if not may(moment, hand, "tell", tongue):
        raise NoRight("the hand may not tell in this tongue")
    line = line_of(moment.editions, e, name)
    if base is not None and not is_telling_of(moment, tongue, line, base):
        raise NoTelling(base)
    # Only what is pieces by itself can be met with others.
    if not are_pieces(source[1], pieces):
        raise Faulty(NO_PIECES)
    spoken, row, terms = moment.tongues[tongue]
    found = faults(moment.measure, spoken, terms, source, kept_pieces(moment, tongue, line, pieces, base))
    if found:
        raise Faulty(found)


def refuse_look(moment, hand, number):
    """Refuse a look at a telling."""
    if not has_telling(moment, number):
        raise NoTelling(number)
    telling = moment.tellings[number]
    if not may(moment, hand, "look", telling.tongue):
        raise NoRight("the hand may not look at this tongue")
    if hand == telling.hand:
        raise Own("the hand told it itself")
    if moment.states[number] != "new":
        raise Looked("it was looked at")


def refuse_call_back(moment, hand, number):
    """Refuse to call a telling back."""
    if not has_telling(moment, number):
        raise NoTelling(number)
    telling = moment.tellings[number]
    if hand != telling.hand and not may(moment, hand, "look", telling.tongue):
        raise NoRight("the hand neither told it nor may look at it")
    if moment.states[number] != "let":
        raise NotLet("it is not let")


REFUSES = {
    "tongue": refuse_new_tongue,
    "rights": refuse_new_rights,
    "edition": refuse_new_edition,
    "tell": refuse_tell,
    "let": refuse_look,
    "send_back": refuse_look,
    "call_back": refuse_call_back,
}


def refuse_deed(moment, deed):
    """Refuse a deed that may not stand behind those of the moment."""
    word, *things = deed
    refuse = REFUSES[word]
    refuse(moment, *things)
