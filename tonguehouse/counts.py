"""Counts, the tests and rules that hold of them, and the forms of a tongue."""

from tonguehouse.kinds import are_unlike, is_name, is_number, is_tuple, is_tuple_of

MOST_PLACES = 2
WHATS = ("whole", "rest", "places")
GREATEST_BY = 60
GREATEST_BOUND = 200
GREATEST_ROUND = 120
MOST_TESTS = 4
MOST_ROWS = 4
MOST_FORMS = 6


def is_count(thing):
    """Whether it is (n, d) as a count is."""
    return is_tuple(thing, 2, 2) and is_number(thing[0]) and is_number(thing[1], 0, MOST_PLACES)


def scale_of(places):
    """10 to the power of the places."""
    scale = 1
    for place in range(places):
        scale *= 10
    return scale


def parts_of(count):
    """The numbers of a count that tests take, by the words for them."""
    n, places = count
    whole, rest = divmod(n, scale_of(places))
    return {"whole": whole, "rest": rest, "places": places}


def is_test(thing):
    """Whether it is (what, by, low, high, yes) as a test is."""
    if not is_tuple(thing, 5, 5):
        return False
    what, by, low, high, yes = thing
    if not is_number(low, 0, GREATEST_BOUND) or not is_number(high, low, GREATEST_BOUND):
        return False
    return what in WHATS and is_by(by) and isinstance(yes, bool)


def is_by(thing):
    """Whether it is what a test may divide by: 0 stands for no division."""
    return is_number(thing, 2, GREATEST_BY) or is_number(thing, 0, 0)


def is_row(thing):
    """Whether it is a row of tests."""
    return is_tuple_of(thing, 0, MOST_TESTS, is_test)


def is_form(thing):
    """Whether it is a pair of a word and a rule."""
    return is_tuple(thing, 2, 2) and is_name(thing[0]) and is_tuple_of(thing[1], 0, MOST_ROWS, is_row)


def is_forms(thing):
    """Whether it is forms, whatever it is."""
    if not is_tuple_of(thing, 1, MOST_FORMS, is_form):
        return False
    return are_unlike([word for word, rule in thing]) and round_of(thing) <= GREATEST_ROUND


def all_tests(forms):
    """All tests of all rules, one behind another."""
    return [test for word, rule in forms for row in rule for test in row]


def common_divisor(one, other):
    """The greatest number that divides both."""
    while other != 0:
        one, other = other, one % other
    return one


def round_of(forms):
    """The least common multiple of all by that are not 0."""
    least = 1
    for what, by, low, high, yes in all_tests(forms):
        if by != 0:
            least = least * by // common_divisor(least, by)
    return least


def holds_of(test, number):
    """Whether the test holds where this is the number of the count that it takes."""
    what, by, low, high, yes = test
    left = number if by == 0 else number % by
    return (low <= left <= high) == yes


def rule_holds(rule, parts):
    """Whether all tests of one row hold of the count with these parts."""
    return any([all([holds_of(test, parts[test[0]]) for test in row]) for row in rule])


def forms_of(forms, count):
    """The words of the forms whose rules hold of the count, in order."""
    parts = parts_of(count)
    return tuple([word for word, rule in forms if rule_holds(rule, parts)])
