"""The errors of the package: what is refused, and what is asked for but is not there."""


class HouseError(ValueError):
    """Something is refused."""


class BadMeasure(HouseError):
    """It is no measure."""


class BadName(HouseError):
    """It is no name."""


class BadTongue(HouseError):
    """It is no tongue."""


class BadFalls(HouseError):
    """It is no row of fallbacks."""


class BadTerms(HouseError):
    """They are no terms."""


class BadRights(HouseError):
    """They are no rights."""


class BadEdition(HouseError):
    """It is no edition."""


class BadSource(HouseError):
    """The source of this name has faults."""

    def __init__(self, name):
        super().__init__(f"the source {name!r} has faults")
        self.name = name


class BadGiven(HouseError):
    """They are no given things."""


class NoCover(HouseError):
    """The forms do not give each count just one word, as the paper tells."""

    def __init__(self, paper):
        super().__init__(f"the forms do not cover: {paper!r}")
        self.paper = paper


class Taken(HouseError):
    """There is a tongue of this name."""

    def __init__(self, name):
        super().__init__(f"the name {name!r} is taken")
        self.name = name


class Full(HouseError):
    """There are as many as there may be."""


class Faulty(HouseError):
    """The telling has these faults."""

    def __init__(self, faults):
        super().__init__(f"the telling has faults: {faults!r}")
        self.faults = faults


class Clash(HouseError):
    """Two changes of one base meet, from first to last."""

    def __init__(self, first, last):
        super().__init__(f"two changes meet from {first!r} to {last!r}")
        self.first = first
        self.last = last


class NoRight(HouseError):
    """The hand has no right to do so."""


class Own(HouseError):
    """The hand told it itself."""


class Looked(HouseError):
    """It was looked at."""


class NotLet(HouseError):
    """It is not let."""


class NothingBack(HouseError):
    """No deed stands that could be undone."""


class Busy(HouseError):
    """Deeds are being tried."""


class NoMoment(HouseError):
    """There is no such moment."""


class NoFit(HouseError):
    """The delta does not fit the list."""


class Long(HouseError):
    """As many deeds stand as may."""


class Behind(HouseError):
    """The program has taken this number of deltas."""

    def __init__(self, number):
        super().__init__(f"the program is at {number!r}")
        self.number = number


class NoText(HouseError):
    """The sign at this place is not of the form."""

    def __init__(self, at):
        super().__init__(f"the form is broken at {at!r}")
        self.at = at


class NoPieces(HouseError):
    """The form is kept, but they are no pieces over the blanks."""


class Unknown(LookupError):
    """There is no tongue of this name."""

    def __init__(self, name):
        super().__init__(f"there is no tongue {name!r}")
        self.name = name


class NoSource(LookupError):
    """There is no such source."""


class NoEdition(LookupError):
    """There is no edition of this number."""

    def __init__(self, number):
        super().__init__(f"there is no edition {number!r}")
        self.number = number


class NoTelling(LookupError):
    """There is no telling of this number."""

    def __init__(self, number):
        super().__init__(f"there is no telling {number!r}")
        self.number = number


class NoName(LookupError):
    """There is no row of this name."""

    def __init__(self, name):
        super().__init__(f"there is no row {name!r}")
        self.name = name
