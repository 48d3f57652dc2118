"""A house as the document says it: nothing but what it is made of and its deeds, all else read off these anew."""

from tests.oracle_meets import Refused, plain_met
from tests.oracle_pieces import piece_at, plain_said, plain_word
from tests.test_editions import plain_lines
from tonguehouse.blanks import are_given
from tonguehouse.covers import cover
from tonguehouse.editions import is_edition
from tonguehouse.counts import is_forms
from tonguehouse.faults import are_terms, faults
from tonguehouse.kinds import is_name
from tonguehouse.manners import is_manner
from tonguehouse.measures import is_measure
from tonguehouse.pieces import are_pieces
from tonguehouse.rooms import in_room

LOOKS = {"let": "let", "send_back": "sent", "call_back": "back"}


def of_word(deeds, word):
    return [deed for deed in deeds if deed[0] == word]


def is_among(number, many):
    return type(number) is int and 0 <= number < many


def plain_editions(made, deeds):
    return (made[3],) + tuple([deed[1] for deed in of_word(deeds, "edition")])


def plain_tongues(made, deeds):
    rows = [(made[1], made[2], (made[1],), ())]
    for word, name, tongue, falls, terms in of_word(deeds, "tongue"):
        rows.append((name, tongue, (name, *falls, made[1]), terms))
    return tuple(sorted(rows, key=lambda row: row[0]))


def tongue_row(made, deeds, name):
    rows = [row for row in plain_tongues(made, deeds) if type(name) is str and row[0] == name]
    return rows[0] if rows else None


def plain_rights(deeds, name):
    rows = [deed[2] for deed in of_word(deeds, "rights") if deed[1] == name]
    return rows[-1] if rows else ()


def source_of(made, deeds, e, name):
    editions = plain_editions(made, deeds)
    if not is_among(e, len(editions)):
        return None
    sources = [source for source in editions[e][0] if source[0] == name]
    return sources[0] if sources else None


def line_at(made, deeds, e, name):
    return plain_lines(plain_editions(made, deeds))[e, name]


def same_line(made, deeds, tongue, line):
    """The numbers of all tellings of a tongue and line."""
    tells = of_word(deeds, "tell")
    return [number for number, tell in enumerate(tells) if tell[2] == tongue and line_at(made, deeds, tell[3], tell[4]) == line]


def kept_of(made, deeds, number):
    """What is kept of a telling, from the deeds that stand ahead of it."""
    tell = of_word(deeds, "tell")[number]
    ahead = deeds[:[at for at, deed in enumerate(deeds) if deed[0] == "tell"][number]]
    return kept_behind(made, ahead, tell)


def kept_behind(made, ahead, tell):
    word, hand, tongue, e, name, pieces, base = tell
    numbers = same_line(made, ahead, tongue, line_at(made, ahead, e, name))
    if base is None or numbers[-1] == base:
        return pieces
    return plain_met(kept_of(made, ahead, base), kept_of(made, ahead, numbers[-1]), pieces)


def state_of(deeds, number):
    looks = [deed[0] for deed in deeds if deed[0] in LOOKS and deed[2] == number]
    return LOOKS[looks[-1]] if looks else "new"


def plain_telling(made, deeds, number):
    tells = of_word(deeds, "tell")
    if not is_among(number, len(tells)):
        raise Refused("NoTelling", number)
    word, hand, tongue, e, name, pieces, base = tells[number]
    return (tongue, line_at(made, deeds, e, name), hand, kept_of(made, deeds, number), state_of(deeds, number))


def word_of(made, deeds, source, line, number):
    tongue, its_line, hand, pieces, state = plain_telling(made, deeds, number)
    if its_line != line:
        return "line"
    if state != "let":
        return state
    name, blanks, own, room = source
    its_tongue = tongue_row(made, deeds, tongue)[1]
    return "serves" if in_room(made[0], its_tongue, blanks, pieces, room) is True else "room"


def plain_rows(made, deeds, e, tongue, name):
    """(rows, number) of a paper."""
    source = source_of(made, deeds, e, name)
    line = line_at(made, deeds, e, name)
    rows = []
    for each in tongue_row(made, deeds, tongue)[2]:
        numbers = [number for number, tell in enumerate(of_word(deeds, "tell")) if tell[2] == each]
        words = {number: word_of(made, deeds, source, line, number) for number in numbers}
        lets = [deed[2] for deed in of_word(deeds, "let") if words.get(deed[2]) == "serves"]
        for number in lets[:-1]:
            words[number] = "elder"
        rows.append((each, tuple(sorted(words.items()))))
        if lets:
            return tuple(rows), lets[-1]
    return tuple(rows), None


def plain_list_row(made, deeds, e, tongue, name):
    rows, number = plain_rows(made, deeds, e, tongue, name)
    pieces = source_of(made, deeds, e, name)[2] if number is None else kept_of(made, deeds, number)
    return (name, rows[-1][0], number, pieces)


def plain_ways(tongue, pieces, given, ahead=()):
    ways = []
    for at, piece in enumerate(pieces):
        if type(piece) is tuple and piece[0] == "quote":
            ways += plain_ways(tongue, piece[1], given, ahead + (at,))
        if type(piece) is tuple and piece[0] == "by":
            word = plain_word(tongue[0], given[piece[1]])
            choice = [pair[0] for pair in piece[2]].index(word)
            ways.append((ahead + (at,), word))
            ways += plain_ways(tongue, piece[2][choice][1], given, ahead + (at, choice))
    return tuple(ways)


def refuse_asked(made, deeds, e, tongue, *rest):
    """Refuses an edition, a tongue, and where they are told a name and given things."""
    if not is_among(e, len(plain_editions(made, deeds))):
        raise Refused("NoEdition", e)
    if tongue_row(made, deeds, tongue) is None:
        raise Refused("Unknown", tongue)
    if rest and source_of(made, deeds, e, rest[0]) is None:
        raise Refused("NoSource")
    if rest[1:] and not are_given(source_of(made, deeds, e, rest[0])[1], rest[1]):
        raise Refused("BadGiven")


def plain_paper(made, deeds, e, tongue, name, given):
    refuse_asked(made, deeds, e, tongue, name, given)
    rows, number = plain_rows(made, deeds, e, tongue, name)
    row = plain_list_row(made, deeds, e, tongue, name)
    spoken = tongue_row(made, deeds, row[1])[1]
    ways = plain_ways(spoken, row[3], given)
    assert all([piece_at(row[3], path)[0] == "by" for path, word in ways])
    return (rows, number, ways, plain_said(spoken, row[3], given))


def refuse_tongue(tongue):
    if type(tongue) is not tuple or len(tongue) != 2 or not is_forms(tongue[0]) or not is_manner(tongue[1]):
        raise Refused("BadTongue")
    if cover(tongue[0]) != ("just",):
        raise Refused("NoCover", cover(tongue[0]))


def refuse_edition(measure, tongue, edition):
    if not is_edition(edition):
        raise Refused("BadEdition")
    for source in edition[0]:
        if faults(measure, tongue, (), source, source[2]) != ():
            raise Refused("BadSource", source[0])


def refuse_made(measure, name, tongue, edition):
    if not is_measure(measure):
        raise Refused("BadMeasure")
    if not is_name(name):
        raise Refused("BadName")
    refuse_tongue(tongue)
    refuse_edition(measure, tongue, edition)


def refuse_new_tongue(made, deeds, name, tongue, falls, terms):
    if not is_name(name):
        raise Refused("BadName")
    if tongue_row(made, deeds, name):
        raise Refused("Taken", name)
    refuse_tongue(tongue)
    if type(falls) is not tuple or len(falls) > 5 or not all([is_name(fall) for fall in falls]):
        raise Refused("BadFalls")
    if len(set(falls)) < len(falls) or made[1] in falls or name in falls:
        raise Refused("BadFalls")
    for fall in falls:
        if not tongue_row(made, deeds, fall):
            raise Refused("Unknown", fall)
    if not are_terms(terms):
        raise Refused("BadTerms")
    if len(plain_tongues(made, deeds)) >= 6:
        raise Refused("Full")


def refuse_new_rights(made, deeds, name, rights):
    if not is_name(name):
        raise Refused("BadName")
    if type(rights) is not tuple or len(rights) > 12:
        raise Refused("BadRights")
    for right in rights:
        if type(right) is not tuple or len(right) != 2 or right[0] not in ("tell", "look") or not is_name(right[1]):
            raise Refused("BadRights")
    for right in rights:
        if not tongue_row(made, deeds, right[1]):
            raise Refused("Unknown", right[1])


def refuse_new_edition(made, deeds, edition):
    refuse_edition(made[0], made[2], edition)
    if len(plain_editions(made, deeds)) >= 8:
        raise Refused("Full")


def refuse_tell(made, deeds, hand, tongue, e, name, pieces, base):
    row = tongue_row(made, deeds, tongue)
    if row is None or tongue == made[1]:
        raise Refused("Unknown", tongue)
    source = source_of(made, deeds, e, name)
    if source is None:
        raise Refused("NoSource")
    if ("tell", tongue) not in plain_rights(deeds, hand):
        raise Refused("NoRight")
    numbers = same_line(made, deeds, tongue, line_at(made, deeds, e, name))
    if base is not None and (type(base) is not int or base not in numbers):
        raise Refused("NoTelling", base)
    if not are_pieces(source[1], pieces):
        raise Refused("Faulty", (("pieces",),))
    kept = kept_behind(made, deeds, ("tell", hand, tongue, e, name, pieces, base))
    wrong = faults(made[0], row[1], row[3], source, kept)
    if wrong:
        raise Refused("Faulty", wrong)


def refuse_look(made, deeds, hand, number):
    tongue, line, teller, pieces, state = plain_telling(made, deeds, number)
    if ("look", tongue) not in plain_rights(deeds, hand):
        raise Refused("NoRight")
    if teller == hand:
        raise Refused("Own")
    if state != "new":
        raise Refused("Looked")


def refuse_call_back(made, deeds, hand, number):
    tongue, line, teller, pieces, state = plain_telling(made, deeds, number)
    if teller != hand and ("look", tongue) not in plain_rights(deeds, hand):
        raise Refused("NoRight")
    if state != "let":
        raise Refused("NotLet")


REFUSALS = {
    "tongue": refuse_new_tongue, "rights": refuse_new_rights, "edition": refuse_new_edition, "tell": refuse_tell,
    "let": refuse_look, "send_back": refuse_look, "call_back": refuse_call_back,
}


def refusal(made, deeds, deed):
    """The Refused that the deed gets behind these deeds, or None."""
    try:
        if len(deeds) >= 120:
            raise Refused("Long")
        REFUSALS[deed[0]](made, deeds, *deed[1:])
    except Refused as error:
        return error
    return None


def plain_asked(asked, *things):
    """What is told, or the word and field of what is refused."""
    try:
        return asked(*things)
    except Refused as error:
        return ("refused", error.word, error.field)
