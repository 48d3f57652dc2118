"""The words of the document, walked count by count: slow, and apart from the package."""

import random

ALWAYS = ((),)
NEVER = ()
ENGLISH = (
    ("one", ((("whole", 0, 1, 1, True), ("places", 0, 0, 0, True)),)),
    ("other", ((("whole", 0, 1, 1, False),), (("places", 0, 0, 0, False),))),
)
# 320, the last whole of the first far round, is the first one above 200 that leaves 8 by 24 and 0 by 40.
FAR_END = (("most", ((("whole", 0, 0, 200, True),), (("whole", 24, 8, 8, False),), (("whole", 40, 0, 0, False),))),)
MANY_RESTS = (
    ("none", ((("rest", 0, 0, 0, True),),)),
    ("tenth", ((("rest", 10, 0, 0, True), ("rest", 0, 0, 0, False)),)),
    ("odd", ((("rest", 10, 0, 0, False), ("whole", 2, 1, 1, True)),)),
    ("even", ((("rest", 10, 0, 0, False), ("whole", 2, 0, 0, True)),)),
)


def number_of(what, n, d):
    return {"whole": n // 10 ** d, "rest": n % 10 ** d, "places": d}[what]


def is_so(test, n, d):
    what, by, low, high, yes = test
    number = number_of(what, n, d)
    if by:
        number = number % by
    inside = low <= number and number <= high
    return inside if yes else not inside


def words_of(forms, n, d):
    words = []
    for word, rule in forms:
        for row in rule:
            if not [test for test in row if not is_so(test, n, d)]:
                words.append(word)
                break
    return tuple(words)


def first_amiss(forms):
    for d in range(3):
        for n in range(321 * 10 ** d):
            words = words_of(forms, n, d)
            if len(words) == 0:
                return ("none", (n, d))
            if len(words) > 1:
                return ("two", (n, d))
    return ("just",)


def last_so(forms, word, low, high, d):
    for n in range(high, low - 1, -1):
        if words_of(forms, n, d)[:1] == (word,):
            return n
    return None


def some_test(some, bys):
    what = some.choice(("whole", "whole", "rest", "places"))
    by = some.choice(bys)
    top = {"places": 2, "rest": 99}.get(what, 200)
    low = some.randint(0, min(top, by or top))
    high = some.randint(low, some.choice((low, min(low + 5, 200), min(max(low, top), 200))))
    return (what, by, low, high, some.random() < 0.6)


def some_forms(some):
    bys = some.choice(((0,), (0, 2, 3, 10), (0, 0, 8, 15), (0, 24, 40), (0, 60), (0, 7, 5, 3)))
    forms = []
    for word in some.sample(("one", "few", "many", "other", "two", "zero"), some.randint(1, 6)):
        rows = [tuple([some_test(some, bys) for test in range(some.randint(0, 4))]) for row in range(some.randint(0, 4))]
        forms.append((word, tuple(rows)))
    return tuple(forms)


def some_split(some):
    """Forms that cover by how they are made: a word is split by a test, again and again."""
    bys = some.choice(((0,), (0, 2, 3, 10), (0, 8, 15), (0, 24, 40)))
    rows = [()]
    while len(rows) < some.randint(2, 6):
        row = rows.pop(some.randrange(len(rows)))
        if len(row) == 4:
            rows.append(row)
            continue
        what, by, low, high, yes = some_test(some, bys)
        rows += [row + ((what, by, low, high, True),), row + ((what, by, low, high, False),)]
    some.shuffle(rows)
    words = ["one", "few", "many", "other", "two", "zero"][:len(rows)]
    return tuple([(word, (row,)) for word, row in zip(words, rows)])


def seeded(number):
    return random.Random(number)


FIGURES = "0123456789"


def plain_width(measure, text):
    wide = 0
    for sign in text:
        told = [pair[1] for pair in measure if sign in pair[0]]
        wide += told[0] if told else 1
    return wide


def lines_of(measure, wide, text):
    """The lines of a text, each tried with one word more as a whole."""
    words = [""]
    for sign in text:
        if sign == " ":
            words.append("")
        else:
            words[-1] += sign
    if max([plain_width(measure, word) for word in words]) > wide:
        return None
    lines = [words[0]]
    for word in words[1:]:
        longer = lines[-1] + " " + word
        if plain_width(measure, longer) <= wide:
            lines[-1] = longer
        else:
            lines.append(word)
    return tuple(lines)


def some_measure(some):
    signs = list("abcdefghijklmnopqrstuvwxyzABIMW.,' ") + [FIGURES]
    some.shuffle(signs)
    pairs = []
    for pair in range(some.randint(0, 6)):
        own = [signs.pop() for sign in range(some.randint(0, 5))]
        pairs.append(("".join(own + own[:some.randint(0, 1)]), some.randint(0, 4)))
    return tuple(pairs)


def some_name(some):
    return "".join([some.choice("abcxyz") for letter in range(some.choice((1, 1, 2, 8)))])


def some_blank(some, name):
    sort = some.choice(("number", "number", "word", "day"))
    if sort == "number":
        low = some.choice((0, 1, some.randint(0, 300), some.randint(0, 10 ** 12)))
        high = min(10 ** 12, low + some.choice((0, 3, some.randint(0, 200), 10 ** 12)))
        return (name, sort, (low, high, some.randint(0, 2)))
    if sort == "word":
        kinds = some.sample(("he", "she", "it", "thing", "a"), some.randint(1, 4))
        return (name, sort, (some.randint(1, 12), tuple(kinds)))
    return (name, sort, ())


def some_blanks(some):
    names = sorted({some_name(some) for name in range(some.randint(0, 4))})
    return tuple([some_blank(some, name) for name in names])


def some_thing(some, blank):
    name, sort, more = blank
    if sort == "number":
        low, high, d = more
        return (some.choice((low, high, some.randint(low, high))), d)
    if sort == "word":
        most, kinds = more
        text = "".join([some.choice("abimwz") for letter in range(some.choice((1, most, some.randint(1, most))))])
        return (text, some.choice(kinds))
    return (some.choice((0, 9999, some.randint(0, 9999))), some.randint(1, 12), some.randint(1, 31))


def some_given(some, blanks):
    return {blank[0]: some_thing(some, blank) for blank in blanks}


def plain_count(manner, n, d):
    """The figures one by one from the right, another way than by a format."""
    whole, rest = n // 10 ** d, n % 10 ** d
    text = ""
    for at, figure in enumerate(reversed(str(whole))):
        text = figure + (manner[0] if at % 3 == 0 and at else "") + text
    if not d:
        return text
    figures = str(rest)
    return text + manner[1] + "0" * (d - len(figures)) + figures
