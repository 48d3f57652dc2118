"""The general words of the document: numbers, texts, names, and tuples of such things."""

GREATEST = 10 ** 12
LONGEST = 200
BARRED_SIGN = 37
FIGURES = "0123456789"
LETTERS = "abcdefghijklmnopqrstuvwxyz"
LONGEST_NAME = 8


def is_number(thing, low=0, high=GREATEST):
    """Whether it is a whole number, no truth, from low to high."""
    return isinstance(thing, int) and not isinstance(thing, bool) and low <= thing <= high


def is_sign(sign):
    """Whether a text may have this sign."""
    return " " <= sign <= "~" and ord(sign) != BARRED_SIGN


def is_text(thing, least=0, most=LONGEST):
    """Whether it is a text of least to most signs."""
    return isinstance(thing, str) and least <= len(thing) <= most and all([is_sign(sign) for sign in thing])


def is_word(thing, most):
    """Whether it is a text of 1 to most small letters."""
    return is_text(thing, 1, most) and all(["a" <= sign <= "z" for sign in thing])


def is_name(thing):
    """Whether it is a text of 1 to 8 small letters."""
    return is_word(thing, LONGEST_NAME)


def is_tuple(thing, least, most):
    """Whether it is a tuple of least to most things."""
    return isinstance(thing, tuple) and least <= len(thing) <= most


def is_tuple_of(thing, least, most, is_part):
    """Whether it is a tuple of least to most things, each of them such as is_part says."""
    return is_tuple(thing, least, most) and all([is_part(part) for part in thing])


def are_unlike(things):
    """Whether no two of these texts or numbers are alike."""
    return len(set(things)) == len(things)


def are_rising(things):
    """Whether each is above the one ahead."""
    return all([one < other for one, other in zip(things, things[1:])])


def is_just(told, thing):
    """Whether the thing, whatever it is, is what is told: tuples, texts, numbers and None, no truth for a number."""
    if isinstance(told, tuple):
        many = len(told)
        return is_tuple(thing, many, many) and all([is_just(part, other) for part, other in zip(told, thing)])
    return thing == told and not isinstance(thing, bool)
