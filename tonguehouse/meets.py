"""What two hands made of one row of pieces, put together."""

from tonguehouse.errors import Clash


def change_of(base, row):
    """(begin, end, came): the shortest stretch of the base that is not alike in the row, and what came in its stead."""
    shorter = min(len(base), len(row))
    begin = 0
    while begin < shorter and base[begin] == row[begin]:
        begin += 1
    behind = 0
    while behind < shorter - begin and base[len(base) - 1 - behind] == row[len(row) - 1 - behind]:
        behind += 1
    return (begin, len(base) - behind, row[begin:len(row) - behind])


def are_apart(begin, end, next_begin, next_end):
    """Whether the first stretch ends where or ahead of where the next begins, not both empty at one place."""
    return end <= next_begin and (begin < end or end < next_begin or next_begin < next_end)


def both_made(base, change, later):
    """The base with both changes made, the later one behind the other."""
    begin, end, came = change
    next_begin, next_end, next_came = later
    return base[:begin] + came + base[end:next_begin] + next_came + base[next_end:]


def met(base, one, other):
    """The base with what both hands changed of it; refused with Clash where they changed the same."""
    if one == base or one == other:
        return other
    if other == base:
        return one
    mine, theirs = change_of(base, one), change_of(base, other)
    if are_apart(mine[0], mine[1], theirs[0], theirs[1]):
        return both_made(base, mine, theirs)
    if are_apart(theirs[0], theirs[1], mine[0], mine[1]):
        return both_made(base, theirs, mine)
    raise Clash(min(mine[0], theirs[0]), max(mine[1], theirs[1]))
