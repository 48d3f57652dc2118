"""Things of any kind, and things of a form with one part of them bent."""

import copy
import re

OTHERS = (None, True, False, 0, 1, -1, 3, 10 ** 39, "", "a", "whole", "a\nb", (), [], {}, {"a": 1}, ((),), [[]], (None,))
SIGN = r"[ -$&-~]"
NAME = r"[a-z]{1,8}"


def nested(times, inner=()):
    deep = inner
    for time in range(times):
        deep = (deep,)
    return deep


def bent(thing):
    """All that comes of putting another thing in the stead of one part, or a list in that of a tuple."""
    for other in OTHERS:
        if type(other) is not type(thing) or other != thing:
            yield other
    if isinstance(thing, tuple):
        yield list(thing)
        yield {str(at): part for at, part in enumerate(thing)}
        yield thing + (None,)
        for at, part in enumerate(thing):
            yield thing[:at] + thing[at + 1:]
            for other in bent(part):
                yield thing[:at] + (other,) + thing[at + 1:]
    if isinstance(thing, dict):
        yield tuple(thing.items())
        yield list(thing)
        yield {**thing, "further": None}
        for name, part in thing.items():
            yield {other: thing[other] for other in thing if other != name}
            for other in bent(part):
                yield {**thing, name: other}


def is_str(thing, pattern):
    return type(thing) is str and re.fullmatch(pattern, thing) is not None


def is_int(thing, low, high):
    return type(thing) is int and thing in range(low, high + 1)


def is_row_of(thing, least, most, is_part):
    return type(thing) is tuple and len(thing) in range(least, most + 1) and not [1 for part in thing if not is_part(part)]


class Says:
    """For a TestCase: what a question about a thing, whatever it is, answers; the thing stays."""

    def says(self, question, thing, answer):
        before = copy.deepcopy(thing)
        self.assertIs(question(thing), answer, thing)
        self.assertIs(question(thing), answer, thing)
        self.assertEqual(repr(thing), repr(before))
