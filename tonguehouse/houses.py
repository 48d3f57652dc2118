"""Houses: texts told in many tongues, kept as deeds, and what is shown of them at any moment."""

from tonguehouse.deeds import refuse_deed, refuse_made
from tonguehouse.errors import Busy, Long, NoMoment, NoTelling, NothingBack
from tonguehouse.kinds import is_number
from tonguehouse.moments import Moment, copied, has_telling, rights_of, take_deed
from tonguehouse.shown import list_row, paper_of, refuse_place, refuse_source

LINES = 8
DEEDS = 120


class House:
    """Keeps deeds; all answers come of what it was made of and of the deeds alone."""

    def __init__(self, measure, name, tongue, edition):
        refuse_made(measure, name, tongue, edition)
        self.made = (measure, name, tongue, edition)
        # The moments behind none, one, two and more deeds; none of them is changed once it stands here.
        self.moments = (Moment(self.made),)
        self.busy = False
        self.log = ()

    def new_tongue(self, name, tongue, falls, terms):
        """A further tongue with its fallbacks and terms."""
        self.do_deed(("tongue", name, tongue, falls, terms))

    def new_rights(self, name, rights):
        """The rights of a hand from now on."""
        self.do_deed(("rights", name, rights))

    def new_edition(self, edition):
        """A further edition."""
        self.do_deed(("edition", edition))

    def tell_text(self, hand, tongue, e, name, pieces, *, base=None):
        """A telling of a source in a tongue; tells its number."""
        self.do_deed(("tell", hand, tongue, e, name, pieces, base))
        return len(self.moments[-1].tellings) - 1

    def let_text(self, hand, number):
        """A look that lets a telling serve."""
        self.do_deed(("let", hand, number))

    def send_back(self, hand, number):
        """A look that sends a telling back."""
        self.do_deed(("send_back", hand, number))

    def call_back(self, hand, number):
        """A telling that was let no longer serves."""
        self.do_deed(("call_back", hand, number))

    def back(self):
        """Undo the last deed."""
        self.refuse_busy()
        if len(self.moments) == 1:
            raise NothingBack("no deed stands")
        self.moments = self.moments[:-1]

    def tried(self, deeds, *, tell=None):
        """Do all the deeds or none, tell called behind each; tells the numbers of the tellings among them."""
        self.refuse_busy()
        rows = tuple(deeds)
        before = self.moments
        numbers = None
        stood = 0
        self.log = self.log[-LINES:] + (("begin", len(rows)),)
        self.busy = True
        try:
            numbers = self.numbers_of(rows, tell)
            stood = len(rows)
        finally:
            if numbers is None:
                self.moments = before
            self.busy = False
            self.log = self.log + (("end", stood),)
        return numbers

    def its_deeds(self):
        """All deeds that stand."""
        return self.moments[-1].deeds

    def __len__(self):
        return len(self.moments[-1].deeds)

    def __eq__(self, other):
        return isinstance(other, House) and self.made == other.made and self.its_deeds() == other.its_deeds()

    def __str__(self):
        return f"{self.made[1]} {len(self.its_deeds())}"

    def its_log(self):
        """The last begins and ends of tried."""
        return self.log[-LINES:]

    def its_editions(self, *, at=None):
        """All editions."""
        return self.moment_at(at).editions

    def its_tongues(self, *, at=None):
        """(name, tongue, row, terms) of each tongue, rising."""
        tongues = self.moment_at(at).tongues
        return tuple([(name,) + tongues[name] for name in sorted(tongues)])

    def its_rights(self, name, *, at=None):
        """The rights of a name."""
        return rights_of(self.moment_at(at), name)

    def its_telling(self, number, *, at=None):
        """(tongue, line, hand, pieces, state) of a telling."""
        moment = self.moment_at(at)
        if not has_telling(moment, number):
            raise NoTelling(number)
        telling = moment.tellings[number]
        return (telling.tongue, telling.line, telling.hand, telling.pieces, moment.states[number])

    def show_text(self, e, tongue, name, given, *, at=None):
        """What is said of what is found."""
        rows, number, ways, text = paper_of(self.moment_at(at), e, tongue, name, given)
        return text

    def found_for(self, e, tongue, name, *, at=None):
        """(tongue, number) of what is found, number None of the source itself."""
        moment = self.moment_at(at)
        refuse_source(moment, e, tongue, name)
        return list_row(moment, e, tongue, name)[1:3]

    def why_shown(self, e, tongue, name, given, *, at=None):
        """The paper that tells why a text is shown: (rows, number, ways, text)."""
        return paper_of(self.moment_at(at), e, tongue, name, given)

    def list_for(self, e, tongue, *, at=None):
        """(name, tongue, number, pieces) of what is found for each source of the edition."""
        moment = self.moment_at(at)
        refuse_place(moment, e, tongue)
        return tuple([list_row(moment, e, tongue, source[0]) for source in moment.editions[e][0]])

    def moment_at(self, at):
        """The moment of this number, None for now."""
        if at is None:
            return self.moments[-1]
        if not is_number(at, 0, len(self.moments) - 1):
            raise NoMoment("there is no such moment")
        return self.moments[at]

    def refuse_busy(self):
        """Refuse deeds while others are being tried, as within tell."""
        if self.busy:
            raise Busy("deeds are being tried")

    def do_deed(self, deed):
        """Do a deed where none are being tried."""
        self.refuse_busy()
        self.add_deed(deed)

    def add_deed(self, deed):
        """Put a deed behind those that stand."""
        if len(self.its_deeds()) >= DEEDS:
            raise Long("as many deeds stand as may")
        refuse_deed(self.moments[-1], deed)
        later = copied(self.moments[-1])
        take_deed(later, deed)
        self.moments = self.moments + (later,)

    def numbers_of(self, deeds, tell):
        """Do the deeds, tell called behind each, and tell the numbers of the tellings among them."""
        numbers = []
        for deed in deeds:
            self.add_deed(deed)
            if deed[0] == "tell":
                numbers.append(len(self.moments[-1].tellings) - 1)
            if tell is not None:
                tell(self)
        return tuple(numbers)
