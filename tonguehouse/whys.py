"""The judge of papers that tell why a text was shown."""

from tonguehouse.errors import BadGiven, NoEdition, NoSource, Unknown
from tonguehouse.kinds import is_just
from tonguehouse.moments import moment_behind
from tonguehouse.shown import paper_of


def is_why(made, deeds, e, tongue, name, given, thing):
    """Whether it is, whatever it is, the paper for what a house shows that was made so and has these deeds."""
    moment = moment_behind(made, deeds)
    try:
        paper = paper_of(moment, e, tongue, name, given)
    except (NoEdition, Unknown, NoSource, BadGiven):
        return False
    return is_just(paper, thing)
