"""Two changes of one base as the document says them, walked plainly and apart from the package."""


class Refused(Exception):
    """What the document refuses: the error's word, and its field or None."""

    def __init__(self, word, field=None):
        super().__init__(word, field)
        self.word = word
        self.field = field


def stretch(base, row):
    """(begin, end) of the stretch: of all ways to keep a begin and an end the one that keeps most from the left first."""
    ways = []
    for left in range(min(len(base), len(row)) + 1):
        for right in range(min(len(base), len(row)) - left + 1):
            if base[:left] == row[:left] and base[len(base) - right:] == row[len(row) - right:]:
                ways.append((left, right))
    left, right = max(ways)
    return left, len(base) - right


def plain_met(base, one, other):
    if base in (one, other):
        return other if one == base else one
    if one == other:
        return one
    changes = []
    for row in (one, other):
        begin, end = stretch(base, row)
        changes.append((begin, end, row[begin:len(row) - (len(base) - end)]))
    # An empty stretch at the begin of another one comes first.
    changes.sort(key=lambda change: change[:2])
    (begin, end, came), (begin2, end2, came2) = changes
    if end > begin2 or (begin, end) == (begin2, end2) == (begin, begin):
        raise Refused("Clash", (min(begin, begin2), max(end, end2)))
    parts = list(base)
    parts[begin2:end2] = came2
    parts[begin:end] = came
    return tuple(parts)
