"""Pieces of a text: what they are, where their choices lack words, and the blanks that they use.

A piece is a text, ("say", name), ("by", name, choices) or ("quote", pieces).
"""

from tonguehouse.kinds import are_unlike, is_name, is_text, is_tuple, is_tuple_of

MOST_IN_ROW = 8
LONGEST_PIECE = 40
MOST_CHOICES = 6
DEEPEST = 4
MOST_IN_ALL = 40
MOST_BLANKS_IN_BY = 3


def kind_of(piece):
    """What a piece is: "text", "say", "by" or "quote"."""
    return "text" if isinstance(piece, str) else piece[0]


def rows_within(piece):
    """(step, pieces) of each row of pieces directly in a piece: the step is what their paths have behind its own."""
    if kind_of(piece) == "quote":
        return [((), piece[1])]
    if kind_of(piece) == "by":
        return [((at,), row) for at, (word, row) in enumerate(piece[2])]
    return []


def is_choice(thing):
    """Whether it is a pair of a word and something."""
    return is_tuple(thing, 2, 2) and is_name(thing[0])


def are_choices(thing):
    """Whether it is the choices of a by, the pieces in them aside."""
    return is_tuple_of(thing, 1, MOST_CHOICES, is_choice) and are_unlike([word for word, row in thing])


def is_piece(sorts, thing):
    """Whether it is a piece over blanks with these sorts by their names, the pieces within it aside."""
    if isinstance(thing, str):
        return is_text(thing, 1, LONGEST_PIECE)
    if not is_tuple(thing, 2, 3):
        return False
    if thing[0] == "quote":
        return len(thing) == 2
    if not is_name(thing[1]) or thing[1] not in sorts:
        return False
    if thing[0] == "say":
        return len(thing) == 2
    return thing[0] == "by" and len(thing) == 3 and sorts[thing[1]] != "day" and are_choices(thing[2])


def names_in(pieces, kind):
    """The names in all pieces of this kind, "say" or "by", at any depth, as they come."""
    return [piece[1] for path, piece in placed(pieces, ()) if kind_of(piece) == kind]


def are_pieces(blanks, thing):
    """Whether it is pieces over the blanks, whatever it is."""
    sorts = {name: sort for name, sort, more in blanks}
    rows = [thing]
    many = 0
    # Level by level, so that no more than the pieces that there may be are ever looked at.
    for level in range(DEEPEST):
        if not all([is_tuple(row, 0, MOST_IN_ROW) for row in rows]):
            return False
        pieces = [piece for row in rows for piece in row]
        many += len(pieces)
        if many > MOST_IN_ALL or not all([is_piece(sorts, piece) for piece in pieces]):
            return False
        rows = [row for piece in pieces for step, row in rows_within(piece)]
    return not rows and len(set(names_in(thing, "by"))) <= MOST_BLANKS_IN_BY


def placed(pieces, ahead):
    """(path, piece) of each piece at any depth, as they come, their paths behind the one ahead."""
    found = []
    for at, piece in enumerate(pieces):
        path = ahead + (at,)
        found.append((path, piece))
        for step, row in rows_within(piece):
            found.extend(placed(row, path + step))
    return found


def words_for(forms, blank):
    """The words that a by of the blank must have."""
    name, sort, more = blank
    return more[1] if sort == "word" else [word for word, rule in forms]


def lacks(forms, blanks, pieces):
    """The paths of all by whose words are not just those that they must have."""
    words = {blank[0]: sorted(words_for(forms, blank)) for blank in blanks}
    bys = [(path, piece) for path, piece in placed(pieces, ()) if kind_of(piece) == "by"]
    return tuple([path for path, piece in bys if sorted([word for word, row in piece[2]]) != words[piece[1]]])


def used(pieces):
    """The names of the blanks in all say and by, rising."""
    return tuple(sorted(set(names_in(pieces, "say") + names_in(pieces, "by"))))
