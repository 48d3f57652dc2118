"""Things that houses are made of, and deeds for them, few enough that they often meet."""

from tests.oracle import ENGLISH, MANY_RESTS
from tests.oracle_house import of_word, plain_editions, plain_tongues, refusal, source_of
from tests.oracle_pieces import MANNERS

EVERY = (("all", ((),)),)
OWN = (ENGLISH, (",", ".", "D/M/Y", ("<", ">")))
TONGUES = (
    (ENGLISH, MANNERS[0]), (ENGLISH, MANNERS[3]), (MANY_RESTS, MANNERS[1]), (EVERY, MANNERS[0]), (EVERY, MANNERS[2]),
)
N = ("n", "number", (0, 99, 0))
WHO = ("who", "word", (3, ("he", "she")))
DAY = ("day", "day", ())
BLANKS = ((), (N,), (N, WHO), (DAY, N))
ROOMS = ((30, 2), (30, 1), (12, 2), (9, 2), (9, 3))
NAMES = ("a", "b", "c", "d")
HANDS = ("ann", "bob", "cid")
TONGUE_NAMES = ("de", "fr", "it", "pl", "no", "sv")
MEASURES = ((), (), (("mw", 2), ("il.", 0)))


def some_of(some, forms, blank):
    """A say, a by or a quote of a blank."""
    name, sort, more = blank
    say = ("say", name)
    if sort == "day":
        return say
    words = list(more[1]) if sort == "word" else [form[0] for form in forms]
    some.shuffle(words)
    by = ("by", name, tuple([(word, some.choice((("x",), (), (say,), ("no ", say), ("il",)))) for word in words]))
    return some.choice((say, by, by, ("quote", (say,)), ("quote", (by, "m"))))


def some_words(some, forms, blanks):
    """Pieces that use all the blanks, mostly in any order with texts between."""
    parts = [some_of(some, forms, blank) for blank in blanks]
    some.shuffle(parts)
    pieces = [some.choice(("m", "file ", "il", "filefile", "z"))]
    for part in parts:
        pieces += [part] + [some.choice((" ", "i", "file"))] * some.choice((0, 1))
    return tuple(pieces[some.choice((0, 0, 1)):])


def some_source(some, name):
    blanks = some.choice(BLANKS[:3] if some.random() < 0.9 else BLANKS)
    return (name, blanks, some_words(some, OWN[0], blanks), some.choice(ROOMS))


def some_renamed(some):
    many = some.choice((0, 0, 0, 1, 2))
    return tuple(zip(sorted(some.sample(NAMES, many)), some.sample(NAMES, many)))


def later_source(some, source, name):
    """What may become of a source in the next edition."""
    blanks, pieces, room = source[1:]
    turn = some.random()
    if turn < 0.15:
        pieces = some_words(some, OWN[0], blanks)
    elif turn < 0.5:
        room = some.choice(ROOMS)
    elif turn < 0.55:
        return some_source(some, name)
    return (name, blanks, pieces, room)


def later_edition(some, edition):
    renamed = some_renamed(some)
    new_names = dict(renamed)
    sources = {}
    for source in edition[0]:
        if some.random() < 0.93:
            name = new_names.get(source[0], source[0])
            sources[name] = later_source(some, source, name)
    if some.random() < 0.2 or not sources:
        name = some.choice(NAMES)
        sources[name] = some_source(some, name)
    return (tuple([sources[name] for name in sorted(sources)]), renamed)


def some_made(some):
    """Things of which a house can be made."""
    measure = some.choice(MEASURES)
    while True:
        names = sorted(some.sample(NAMES, some.randint(1, 3)))
        made = (measure, "en", OWN, (tuple([some_source(some, name) for name in names]), some_renamed(some)))
        if refusal(made, (), ("edition", made[3])) is None:
            return made


def some_edited(some, row):
    """A row of pieces with a change somewhere."""
    at = some.randint(0, len(row))
    turn = some.random()
    if turn < 0.5:
        return row[:at] + (some.choice(("m", "file ", "il", "z")),) + row[at:]
    if turn < 0.75 and at < len(row) and type(row[at]) is str:
        return row[:at] + (some.choice(("m", "x ")),) + row[at + 1:]
    return row


def some_tell(some, made, deeds):
    rows = plain_tongues(made, deeds)
    name, tongue, row, terms = some.choice(rows)
    e = some.randrange(len(plain_editions(made, deeds)))
    source = some.choice(plain_editions(made, deeds)[e][0])
    tells = of_word(deeds, "tell")
    base = None
    pieces = some_words(some, tongue[0], source[1]) + some.choice(((), (), (" filefile file",), ("widerwider",)))
    if tells and some.random() < 0.5:
        base = some.randrange(len(tells))
        old = tells[base]
        if some.random() < 0.9:
            name, e, source = old[2], old[3], source_of(made, deeds, old[3], old[4])
        pieces = some_edited(some, old[5])
    return ("tell", some.choice(HANDS), name, e, source[0], pieces, base)


def some_deed(some, made, deeds):
    """A deed that often stands, and often is refused."""
    names = [row[0] for row in plain_tongues(made, deeds)]
    many = len(of_word(deeds, "tell"))
    word = some.choice(("tongue", "rights", "edition") + ("tell",) * 5 + ("let",) * 4 + ("send_back", "call_back"))
    if word == "tongue":
        falls = tuple(some.sample(names, some.choice((0, 0, 1, min(2, len(names))))))
        terms = some.choice(((), (), (("file", "z"),), (("il", "m"), ("x", "x"))))
        return (word, some.choice(TONGUE_NAMES), some.choice(TONGUES), falls, terms)
    if word == "rights":
        every = tuple([(what, name) for what in ("tell", "look") for name in names])[:12]
        return (word, some.choice(HANDS), some.choice((every, every, every, every[1::2], ())))
    if word == "edition":
        return (word, later_edition(some, plain_editions(made, deeds)[-1]))
    if word == "tell":
        return some_tell(some, made, deeds)
    number = some.choice((many - 1, many - 1, many - 2, some.randint(0, many)))
    return (word, some.choice(HANDS), number)


def first_deeds(some):
    """Tongues and rights with which much can be done."""
    deeds = [("tongue", "de", TONGUES[0], (), ()), ("tongue", "fr", some.choice(TONGUES), ("de",), (("file", "z"),))]
    every = tuple([(what, name) for what in ("tell", "look") for name in ("de", "fr")])
    return deeds + [("rights", hand, every) for hand in HANDS]


def some_deeds(some, made, many):
    """At most so many deeds that stand one behind another."""
    deeds = ()
    for deed in first_deeds(some) + [None] * many:
        deed = deed or some_deed(some, made, deeds)
        if len(deeds) < many and refusal(made, deeds, deed) is None:
            deeds += (deed,)
    return deeds


def few_given(some, blanks):
    """A few given things for the blanks, one for each form and kind at least once in a while."""
    given = {}
    for name, sort, more in blanks:
        if sort == "number":
            given[name] = (some.choice((0, 1, 2, 21, 99, some.randint(0, 99))), more[2])
        elif sort == "word":
            given[name] = (some.choice(("a", "m", "mmm", "il")), some.choice(more[1]))
        else:
            given[name] = (some.choice((5, 2026)), 1, some.randint(1, 31))
    return given
