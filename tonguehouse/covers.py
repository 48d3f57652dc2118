"""Whether forms give each count just one word, and the last number that has a word.

A row of tests holds of a count where its tests of the whole, of the rest and of the places hold.
So the whole and the rest are looked at apart: for each, the rows that it lets hold are kept as bits,
and of all numbers with the same bits one is enough.
"""

from tonguehouse.counts import MOST_PLACES, all_tests, forms_of, holds_of, is_count, round_of, scale_of
from tonguehouse.kinds import is_tuple


def row_bits(forms, what, number):
    """A bit for each row of all rules: set where all tests of this number of a count hold in it."""
    bits = 0
    bit = 1
    for word, rule in forms:
        for row in rule:
            if all([holds_of(test, number) for test in row if test[0] == what]):
                bits += bit
            bit *= 2
    return bits


def form_bits(forms):
    """For each form its word and the bits of its own rows."""
    pairs = []
    bit = 1
    for word, rule in forms:
        own = 0
        for row in rule:
            own += bit
            bit *= 2
        pairs.append((word, own))
    return pairs


def words_with(pairs, bits):
    """The words, in order, of the forms of which a row holds."""
    return [word for word, own in pairs if (own & bits) != 0]


def unlike(forms, what, numbers):
    """(number, bits) of the first of all these numbers that have the same bits, in their order."""
    first = {}
    for number in numbers:
        first.setdefault(row_bits(forms, what, number), number)
    return [(number, bits) for bits, number in first.items()]


def first_far(forms):
    """The whole number from which on wholes come again in rounds: no test has a bound there or above."""
    return 1 + max([high for what, by, low, high, yes in all_tests(forms)], default=-1)


def amiss(forms, wholes, places):
    """The paper of the first count with so many places that has not just one form, else None."""
    pairs = form_bits(forms)
    held = row_bits(forms, "places", places)
    scale = scale_of(places)
    rests = unlike(forms, "rest", list(range(scale)))
    for whole, whole_bits in wholes:
        for rest, rest_bits in rests:
            words = words_with(pairs, whole_bits & rest_bits & held)
            if len(words) != 1:
                return ("two" if words else "none", (whole * scale + rest, places))
    return None


def cover(forms):
    """("just",), or ("none", count) or ("two", count) with the first count of which it is so."""
    wholes = unlike(forms, "whole", list(range(first_far(forms) + round_of(forms))))
    for places in range(MOST_PLACES + 1):
        paper = amiss(forms, wholes, places)
        if paper is not None:
            return paper
    return ("just",)


def cover_holds(forms, thing):
    """Whether it says, whatever it is, what is so of the forms and its count."""
    if is_tuple(thing, 1, 1):
        return thing == ("just",) and cover(forms) == ("just",)
    if not is_tuple(thing, 2, 2) or not is_count(thing[1]):
        return False
    many = len(forms_of(forms, thing[1]))
    return thing[0] == "none" and many == 0 or thing[0] == "two" and many >= 2


def falling_wholes(forms, least, greatest):
    """Wholes from the greatest down to the least, far ones for one round only."""
    far = first_far(forms)
    last_far = max(least, far, greatest - round_of(forms) + 1)
    near = min(greatest, far - 1)
    return list(range(greatest, last_far - 1, -1)) + list(range(near, least - 1, -1))


def stretches(low, high, scale):
    """From low to high, from above: (least whole, greatest, least rest, greatest), all wholes with all rests."""
    if low > high:
        return []
    bottom, bottom_rest = divmod(low, scale)
    top, top_rest = divmod(high, scale)
    if bottom == top:
        return [(top, top, bottom_rest, top_rest)]
    between = (bottom + 1, top - 1, 0, scale - 1)
    return [(top, top, 0, top_rest), between, (bottom, bottom, bottom_rest, scale - 1)]


def last_of_each(forms, low, high, d):
    """By each word that is the first form of some (n, d) with n from low to high: the greatest such n."""
    pairs = form_bits(forms)
    held = row_bits(forms, "places", d)
    scale = scale_of(d)
    last = {}
    for least, greatest, least_rest, greatest_rest in stretches(low, high, scale):
        wholes = unlike(forms, "whole", falling_wholes(forms, least, greatest))
        rests = unlike(forms, "rest", list(range(greatest_rest, least_rest - 1, -1)))
        for whole, whole_bits in wholes:
            for rest, rest_bits in rests:
                for word in words_with(pairs, whole_bits & rest_bits & held)[:1]:
                    last.setdefault(word, whole * scale + rest)
            if len(last) == len(forms):
                return last
    return last


def last_with(forms, word, low, high, d):
    """The greatest n from low to high such that the word is the first form of (n, d), or None."""
    return last_of_each(forms, low, high, d).get(word)
