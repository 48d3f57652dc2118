"""What is found for a source in a tongue at a moment, what is shown of it, and why."""

from tonguehouse.blanks import are_given
from tonguehouse.editions import has_edition, line_of
from tonguehouse.errors import BadGiven, NoEdition, NoSource, Unknown
from tonguehouse.moments import has_tongue, source_at, tellings_of
from tonguehouse.rooms import in_room
from tonguehouse.sayings import said, said_ways


def refuse_place(moment, e, tongue):
    """Refuse an edition or a tongue that is not there, whatever they are."""
    if not has_edition(moment.editions, e):
        raise NoEdition(e)
    if not has_tongue(moment, tongue):
        raise Unknown(tongue)


def refuse_source(moment, e, tongue, name):
    """Refuse an edition, a tongue or a source that is not there, whatever they are."""
    refuse_place(moment, e, tongue)
    if source_at(moment, e, name) is None:
        raise NoSource("there is no such source")


def refuse_shown(moment, e, tongue, name, given):
    """Refuse what can not be shown, whatever it is."""
    refuse_source(moment, e, tongue, name)
    if not are_given(source_at(moment, e, name)[1], given):
        raise BadGiven("they are no given things for the source's blanks")


def is_in_room(moment, telling, source):
    """Whether the telling is in the source's room for all given things."""
    name, blanks, pieces, room = source
    if room not in telling.known_rooms:
        tongue = moment.tongues[telling.tongue][0]
        telling.known_rooms[room] = in_room(moment.measure, tongue, blanks, telling.pieces, room) is True
    return telling.known_rooms[room]


def reason_of(moment, number, line, source):
    """The word for how a telling stands to a source of this line, whether another one was let later aside."""
    telling = moment.tellings[number]
    state = moment.states[number]
    if telling.line != line:
        return "line"
    if state != "let":
        return state
    return "serves" if is_in_room(moment, telling, source) else "room"


def last_let(moment, serving):
    """Of the numbers of tellings that serve the one whose let deed came last, or None."""
    lets = [number for number in moment.lets if number in serving]
    return lets[-1] if lets else None


def reasons_of(moment, tongue, line, source):
    """(reasons, number): (number, word) of each telling of the tongue, rising, and the one that is found or None."""
    words = [(number, reason_of(moment, number, line, source)) for number in tellings_of(moment, tongue)]
    found = last_let(moment, [number for number, word in words if word == "serves"])
    told = [(number, "elder" if word == "serves" and number != found else word) for number, word in words]
    return (tuple(told), found)


def walked(moment, e, tongue, name):
    """(rows, number, pieces): (tongue, reasons) for each tongue of the row up to the last one, in which it is found.

    Number and pieces are those of the telling that is found, or None and the source's own ones.
    """
    source = source_at(moment, e, name)
    line = line_of(moment.editions, e, name)
    rows = []
    for each in moment.tongues[tongue][1]:
        reasons, found = reasons_of(moment, each, line, source)
        rows.append((each, reasons))
        if found is not None:
            return (tuple(rows), found, moment.tellings[found].pieces)
    return (tuple(rows), None, source[2])


def list_row(moment, e, tongue, name):
    """(name, tongue, number, pieces) of what is found, as a list has it."""
    rows, number, pieces = walked(moment, e, tongue, name)
    return (name, rows[-1][0], number, pieces)


def paper_of(moment, e, tongue, name, given):
    """(rows, number, ways, text): the text that is shown, and why it is."""
    refuse_shown(moment, e, tongue, name, given)
    rows, number, pieces = walked(moment, e, tongue, name)
    spoken = moment.tongues[rows[-1][0]][0]
    return (rows, number, said_ways(spoken, pieces, given), said(spoken, pieces, given))
