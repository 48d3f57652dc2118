"""Pieces as the document says them, walked plainly and apart from the package."""

import itertools
import re

from tests.oracle import ENGLISH, MANY_RESTS, plain_count, some_split, words_of

MANNERS = (
    (",", ".", "Y-M-D", ("<<", ">>")),
    ("", ",", "d.m.y", ("", "")),
    ("'", "m", "Monday", ("w", "")),
    (".", ",", "YYYYYYYYYYYY", ("'", "i.")),
)
LETTERS = "abcdefghijklmnopqrstuvwxyz"


def plain_thing(manner, thing):
    if type(thing[0]) is str:
        return thing[0]
    if len(thing) == 2:
        return plain_count(manner, thing[0], thing[1])
    ways = {"y": "{0}", "m": "{1}", "d": "{2}", "Y": "{0:04}", "M": "{1:02}", "D": "{2:02}"}
    return re.sub("[ymdYMD]", lambda found: ways[found[0]].format(*thing), manner[2])


def plain_word(forms, thing):
    if type(thing[0]) is str:
        return thing[1]
    word, = words_of(forms, thing[0], thing[1])
    return word


def plain_said(tongue, pieces, given):
    forms, manner = tongue
    text = ""
    for piece in pieces:
        if type(piece) is str:
            text += piece
        elif piece[0] == "say":
            text += plain_thing(manner, given[piece[1]])
        elif piece[0] == "quote":
            text += manner[3][0] + plain_said(tongue, piece[1], given) + manner[3][1]
        else:
            text += plain_said(tongue, dict(piece[2])[plain_word(forms, given[piece[1]])], given)
    return text


def piece_at(pieces, path):
    """The piece at a path, walked from the outside."""
    piece = pieces[path[0]]
    if len(path) == 1:
        return piece
    if piece[0] == "quote":
        return piece_at(piece[1], path[1:])
    return piece_at(piece[2][path[1]][1], path[2:])


def all_paths(pieces):
    """The paths of all pieces, in no order."""
    paths = []
    for at, piece in enumerate(pieces):
        paths.append((at,))
        if type(piece) is tuple and piece[0] == "quote":
            paths += [(at,) + path for path in all_paths(piece[1])]
        if type(piece) is tuple and piece[0] == "by":
            for choice in range(len(piece[2])):
                paths += [(at, choice) + path for path in all_paths(piece[2][choice][1])]
    return paths


def few_things(blank):
    """All things for a blank; of words and days one of each kind and length, and of each count of figures."""
    name, sort, more = blank
    if sort == "number":
        return [(n, more[2]) for n in range(more[0], more[1] + 1)]
    if sort == "word":
        texts = [letter * many for letter in LETTERS for many in range(1, more[0] + 1)]
        return [(text, kind) for text in texts for kind in more[1]]
    return list(itertools.product((0, 10, 100, 1000, 9999), (1, 10, 12), (9, 31)))


def all_given(blanks):
    names = [blank[0] for blank in blanks]
    return [dict(zip(names, things)) for things in itertools.product(*[few_things(blank) for blank in blanks])]


def some_tongue(some):
    return (some.choice((ENGLISH, MANY_RESTS, some_split(some), some_split(some))), some.choice(MANNERS))


def few_blank(some, name):
    """A blank that has few things."""
    sort = some.choice(("number", "number", "number", "word", "day"))
    if sort == "number":
        low = some.choice((0, 1, 8, 95, 197, 990, 1234, some.randint(0, 400)))
        return (name, sort, (low, low + some.choice((0, 1, 4, 12)), some.randint(0, 2)))
    if sort == "word":
        return (name, sort, (some.randint(1, 2), tuple(some.sample(("he", "she", "it", "a"), some.randint(1, 2)))))
    return (name, sort, ())


class Maker:
    """Makes pieces that lack nothing, as many as there may be."""

    def __init__(self, some, forms, blanks, left=40):
        self.some = some
        self.forms = forms
        self.blanks = blanks
        self.choosing = [blank for blank in blanks if blank[1] != "day"][:3]
        self.left = left

    def words(self, blank):
        words = list(blank[2][1]) if blank[1] == "word" else [word for word, rule in self.forms]
        self.some.shuffle(words)
        return words

    def text(self):
        return "".join([self.some.choice("abim w 07,.") for sign in range(self.some.choice((1, 2, 5, 12)))])

    def piece(self, deep):
        kind = self.some.choice(("text", "say", "say", "by", "by", "quote"))
        if kind == "say" and self.blanks:
            return ("say", self.some.choice(self.blanks)[0])
        if kind == "by" and self.choosing and deep > 1:
            blank = self.some.choice(self.choosing)
            return ("by", blank[0], tuple([(word, self.row(deep - 1)) for word in self.words(blank)]))
        if kind == "quote" and deep > 1:
            return ("quote", self.row(deep - 1))
        return self.text()

    def row(self, deep):
        pieces = []
        for time in range(self.some.choice((0, 1, 1, 2, 3, 5))):
            if self.left > 0:
                self.left -= 1
                pieces.append(self.piece(deep))
        return tuple(pieces)


def some_pieces(some, forms, blanks):
    return Maker(some, forms, blanks).row(4)
