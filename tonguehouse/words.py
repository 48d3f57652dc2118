"""Pieces written as one text, and read from it.

A say is {name}, a by {name:word pieces|word pieces}, a quote {"pieces}; in a text a backslash stands ahead of each
backslash, brace and bar.
"""

from tonguehouse.errors import NoPieces, NoText
from tonguehouse.kinds import LETTERS, LONGEST_NAME, is_sign
from tonguehouse.pieces import are_pieces, kind_of

MARKS = "{}|\\"


def written_text(text):
    """A text with a backslash ahead of each mark."""
    return "".join(["\\" + sign if sign in MARKS else sign for sign in text])


def written_piece(piece):
    """One piece as a text."""
    kind = kind_of(piece)
    if kind == "text":
        return written_text(piece)
    if kind == "quote":
        return "{\"" + written(piece[1]) + "}"
    if kind == "say":
        return "{" + piece[1] + "}"
    return "{" + piece[1] + ":" + "|".join([word + " " + written(row) for word, row in piece[2]]) + "}"


def written(pieces):
    """The pieces as one text."""
    return "".join([written_piece(piece) for piece in pieces])


class OpenRow:
    """A row of pieces that is being read, and the brace around it: a "quote", a "by" or "none"."""

    def __init__(self, around, name):
        self.around = around
        self.name = name
        self.word = ""
        self.choices = []
        self.pieces = []

    def add_sign(self, sign):
        """A sign of a text, behind those that stand directly ahead of it."""
        if self.pieces and kind_of(self.pieces[-1]) == "text":
            self.pieces[-1] += sign
        else:
            self.pieces.append(sign)

    def end_choice(self):
        """The pieces are those of the word's choice."""
        self.choices.append((self.word, tuple(self.pieces)))
        self.pieces = []

    def whole_piece(self):
        """The piece that the brace makes of its row."""
        if self.around == "quote":
            return ("quote", tuple(self.pieces))
        self.end_choice()
        return ("by", self.name, tuple(self.choices))


class Reader:
    """Reads a text from the left, each sign only where a text of the form may have it."""

    def __init__(self, text):
        self.text = text
        self.at = 0
        self.open_rows = [OpenRow("none", "")]

    def sees(self, signs):
        """Whether the next sign is one of these."""
        return self.at < len(self.text) and self.text[self.at] in signs

    def take(self, signs):
        """The next sign, which must be one of these."""
        if not self.sees(signs):
            raise NoText(self.at)
        self.at += 1
        return self.text[self.at - 1]

    def take_name(self):
        """The next small letters, as many as a name may have."""
        letters = [self.take(LETTERS)]
        while len(letters) < LONGEST_NAME and self.sees(LETTERS):
            letters.append(self.take(LETTERS))
        return "".join(letters)

    def take_word(self):
        """The word of a choice, and the blank behind it."""
        row = self.open_rows[-1]
        row.word = self.take_name()
        self.take(" ")

    def begin_brace(self):
        """What stands behind a brace up to the pieces within it."""
        if self.sees("\""):
            self.take("\"")
            self.open_rows.append(OpenRow("quote", ""))
            return
        name = self.take_name()
        if self.take("}:") == "}":
            self.open_rows[-1].pieces.append(("say", name))
        else:
            self.open_rows.append(OpenRow("by", name))
            self.take_word()

    def end_brace(self):
        """The piece of the row that ends comes to the row around it."""
        row = self.open_rows.pop()
        self.open_rows[-1].pieces.append(row.whole_piece())

    def take_next(self):
        """The next sign of a text, begin or end of a brace, or begin of a choice."""
        row = self.open_rows[-1]
        sign = self.text[self.at]
        if sign == "}" and row.around == "none" or sign == "|" and row.around != "by" or not is_sign(sign):
            raise NoText(self.at)
        self.at += 1
        if sign == "\\":
            row.add_sign(self.take(MARKS))
        elif sign == "{":
            self.begin_brace()
        elif sign == "}":
            self.end_brace()
        elif sign == "|":
            row.end_choice()
            self.take_word()
        else:
            row.add_sign(sign)

    def all_pieces(self):
        """The pieces of the whole text."""
        while self.at < len(self.text):
            self.take_next()
        if len(self.open_rows) > 1:
            raise NoText(self.at)
        return tuple(self.open_rows[0].pieces)


def read(blanks, text):
    """The pieces over the blanks that are written so."""
    pieces = Reader(text).all_pieces()
    if not are_pieces(blanks, pieces):
        raise NoPieces("they are no pieces over the blanks")
    return pieces
