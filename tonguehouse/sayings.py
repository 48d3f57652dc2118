"""What pieces say in a tongue for given things, and which ways through their choices it takes."""

from tonguehouse.counts import forms_of
from tonguehouse.manners import said_count, said_day
from tonguehouse.pieces import kind_of, names_in, rows_within


def is_of_word(thing):
    """Whether a given thing is a word with its kind."""
    return isinstance(thing[0], str)


def said_thing(manner, thing):
    """A given thing as the manner says it."""
    if is_of_word(thing):
        return thing[0]
    return said_count(manner, thing) if len(thing) == 2 else said_day(manner, thing)


def word_of(forms, thing):
    """The word by which a given thing chooses."""
    return thing[1] if is_of_word(thing) else forms_of(forms, thing)[0]


def chosen_words(tongue, pieces, given):
    """By the name of each blank in a by the word that it chooses."""
    return {name: word_of(tongue[0], given[name]) for name in names_in(pieces, "by")}


def rows_gone(piece, words):
    """Those of the rows within a piece that are gone through where blanks choose these words."""
    if kind_of(piece) != "by":
        return rows_within(piece)
    told = [word for word, row in piece[2]]
    return [rows_within(piece)[told.index(words[piece[1]])]]


def spoken(manner, pieces, given, words):
    """What the pieces say where blanks choose these words."""
    texts = []
    for piece in pieces:
        inner = "".join([spoken(manner, row, given, words) for step, row in rows_gone(piece, words)])
        if kind_of(piece) == "text":
            texts.append(piece)
        elif kind_of(piece) == "say":
            texts.append(said_thing(manner, given[piece[1]]))
        elif kind_of(piece) == "quote":
            texts.append(manner[3][0] + inner + manner[3][1])
        else:
            texts.append(inner)
    return "".join(texts)


def said(tongue, pieces, given):
    """The text that the pieces say."""
    return spoken(tongue[1], pieces, given, chosen_words(tongue, pieces, given))


def ways_in(pieces, words, ahead):
    """(path, word) of each by that is gone through, as they come, the paths behind the one ahead."""
    found = []
    for at, piece in enumerate(pieces):
        path = ahead + (at,)
        if kind_of(piece) == "by":
            found.append((path, words[piece[1]]))
        for step, row in rows_gone(piece, words):
            found.extend(ways_in(row, words, path + step))
    return found


def said_ways(tongue, pieces, given):
    """(path, word) of each by that is gone through, as they come."""
    return tuple(ways_in(pieces, chosen_words(tongue, pieces, given), ()))
