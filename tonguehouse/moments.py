"""Moments of a house: what stands behind some of its deeds.

A moment follows from what the house was made of and from its deeds alone. The deeds that are taken here are such as a
house let stand: what may be wrong with a deed is looked at elsewhere.
"""

from tonguehouse.editions import has_edition, line_of, source_in
from tonguehouse.kinds import is_name, is_number
from tonguehouse.meets import met


class Telling:
    """What a hand told in a tongue for the sources of a line."""

    def __init__(self, tongue, line, hand, pieces):
        self.tongue = tongue
        self.line = line
        self.hand = hand
        self.pieces = pieces
        # Whether it is in the rooms that were asked about: a telling never changes, and to find it out takes long.
        self.known_rooms = {}


class Moment:
    """All that stands behind some deeds of a house."""

    def __init__(self, made):
        measure, own, tongue, edition = made
        self.made = made
        self.measure = measure
        self.own = own
        self.deeds = ()
        self.editions = (edition,)
        # By each tongue's name (tongue, row, terms).
        self.tongues = {own: (tongue, (own,), ())}
        self.rights = {}
        self.tellings = ()
        # The state of each telling, and the numbers of those that were let, as their let deeds came.
        self.states = ()
        self.lets = ()


def copied(moment):
    """Another moment at which the same stands."""
    other = Moment(moment.made)
    other.deeds = moment.deeds
    other.editions = moment.editions
    other.tongues = dict(moment.tongues)
    other.rights = dict(moment.rights)
    other.tellings = moment.tellings
    other.states = moment.states
    other.lets = moment.lets
    return other


def has_tongue(moment, name):
    """Whether there is a tongue of this name, whatever it is."""
    return is_name(name) and name in moment.tongues


def has_telling(moment, number):
    """Whether there is a telling of this number, whatever it is."""
    return is_number(number, 0, len(moment.tellings) - 1)


def source_at(moment, e, name):
    """The source of this name in edition e, whatever they are, or None."""
    return source_in(moment.editions[e], name) if has_edition(moment.editions, e) else None


def rights_of(moment, name):
    """The rights of a name, whatever it is."""
    return moment.rights.get(name, ()) if is_name(name) else ()


def tellings_of(moment, tongue):
    """The numbers of all tellings of a tongue, rising."""
    return [number for number, telling in enumerate(moment.tellings) if telling.tongue == tongue]


def newest_of(moment, tongue, line):
    """The number of the newest telling of this tongue and line, whatever its state, or None."""
    numbers = [number for number in tellings_of(moment, tongue) if moment.tellings[number].line == line]
    return numbers[-1] if numbers else None


def kept_pieces(moment, tongue, line, pieces, base):
    """What is kept of told pieces: they themselves, or met with those that came behind their base."""
    newest = newest_of(moment, tongue, line)
    if base is None or newest == base:
        return pieces
    return met(moment.tellings[base].pieces, moment.tellings[newest].pieces, pieces)


def take_tongue(moment, name, tongue, falls, terms):
    """A further tongue."""
    moment.tongues[name] = (tongue, (name,) + falls + (moment.own,), terms)


def take_rights(moment, name, rights):
    """The rights of a name from now on."""
    moment.rights[name] = rights


def take_edition(moment, edition):
    """A further edition."""
    moment.editions = moment.editions + (edition,)


def take_tell(moment, hand, tongue, e, name, pieces, base):
    """A further telling."""
    line = line_of(moment.editions, e, name)
    kept = kept_pieces(moment, tongue, line, pieces, base)
    moment.tellings = moment.tellings + (Telling(tongue, line, hand, kept),)
    moment.states = moment.states + ("new",)


def put_state(moment, number, state):
    """Another state of a telling."""
    moment.states = moment.states[:number] + (state,) + moment.states[number + 1:]


def take_let(moment, hand, number):
    """A look that lets a telling serve."""
    put_state(moment, number, "let")
    moment.lets = moment.lets + (number,)


def take_send_back(moment, hand, number):
    """A look that sends a telling back."""
    put_state(moment, number, "sent")


def take_call_back(moment, hand, number):
    """A telling that was let no longer serves."""
    put_state(moment, number, "back")


TAKES = {
    "tongue": take_tongue,
    "rights": take_rights,
    "edition": take_edition,
    "tell": take_tell,
    "let": take_let,
    "send_back": take_send_back,
    "call_back": take_call_back,
}


def take_deed(moment, deed):
    """Put the deed behind those of the moment."""
    word, *things = deed
    take = TAKES[word]
    take(moment, *things)
    moment.deeds = moment.deeds + (deed,)


def moment_behind(made, deeds):
    """The moment behind these deeds of a house that was made of these things."""
    moment = Moment(made)
    for deed in deeds:
        take_deed(moment, deed)
    return moment
