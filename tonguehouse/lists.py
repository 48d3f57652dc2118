"""Lists of what a program shows, and deltas that lead from one list to another.

A list is a tuple of rows (name, tongue, number, pieces), rising by name; a delta is (gone, come).
"""

from tonguehouse.errors import NoFit


def rows_by_name(rows):
    """The rows of a list by their names."""
    return {row[0]: row for row in rows}


def delta(one, other):
    """(gone, come): the names that go from the first list, and the rows that come, so that it is the second one."""
    old, new = rows_by_name(one), rows_by_name(other)
    gone = [name for name in old if name not in new]
    come = [row for row in other if row[0] not in old or old[row[0]] != row]
    return (tuple(gone), tuple(come))


def led(rows, delta):
    """The list to which the delta leads; NoFit where a name that shall go is not there."""
    gone, come = delta
    names = rows_by_name(rows)
    for name in gone:
        if name not in names:
            raise NoFit("a name that shall go is not there")
        del names[name]
    names.update(rows_by_name(come))
    return tuple([names[name] for name in sorted(names)])
