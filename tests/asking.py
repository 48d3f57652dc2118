"""Deeds done and questions asked, with what is told or the word and field of what is refused."""

import itertools

from tests.oracle_house import plain_editions, plain_tongues
from tonguehouse.errors import Clash, HouseError
from tonguehouse.houses import House

FIELDS = ("name", "paper", "faults", "number", "at")
HANDS_AND_MORE = ("ann", "bob", "cid", "nobody")


def field_of(error):
    if type(error) is Clash:
        return (error.first, error.last)
    fields = [getattr(error, field) for field in FIELDS if hasattr(error, field)]
    return fields[0] if fields else None


def asked(question, *things, **more):
    try:
        return question(*things, **more)
    except (HouseError, LookupError) as error:
        return ("refused", type(error).__name__, field_of(error))


def do(house, deed):
    """Do a deed by its own method."""
    word, *things = deed
    if word == "tell":
        return house.tell_text(*things[:-1], base=things[-1])
    methods = {
        "tongue": house.new_tongue, "rights": house.new_rights, "edition": house.new_edition, "let": house.let_text,
        "send_back": house.send_back, "call_back": house.call_back,
    }
    return methods[word](*things)


def house_of(made, deeds=()):
    house = House(*made)
    for deed in deeds:
        do(house, deed)
    return house


def all_asked(house, given_for, at=None):
    """The answers to all questions about what stands at a moment; given_for(blanks) makes given things."""
    editions = house.its_editions(at=at)
    names = [row[0] for row in house.its_tongues(at=at)] + ["zz"]
    told = [editions, house.its_tongues(at=at)]
    told += [house.its_rights(hand, at=at) for hand in HANDS_AND_MORE]
    number = 0
    while asked(house.its_telling, number, at=at)[0] != "refused":
        told.append(house.its_telling(number, at=at))
        number += 1
    for e, tongue in itertools.product(range(len(editions) + 1), names):
        told.append(asked(house.list_for, e, tongue, at=at))
        for name, blanks, pieces, room in editions[e][0] if e < len(editions) else ():
            told.append(asked(house.found_for, e, tongue, name, at=at))
            told.append(asked(house.why_shown, e, tongue, name, given_for(blanks), at=at))
    return told


def all_places(made, deeds):
    """(e, tongue, source) of all that can be shown behind these deeds."""
    editions = plain_editions(made, deeds)
    tongues = [row[0] for row in plain_tongues(made, deeds)]
    return [(e, tongue, source) for e in range(len(editions)) for tongue in tongues for source in editions[e][0]]


def all_alike(blanks):
    """The same given things for the same blanks."""
    things = {"number": (5, 0), "word": ("il", "he"), "day": (2026, 11, 8)}
    return {name: things[sort] for name, sort, more in blanks}
