"""Places of patterns in patterns, and the unavoidable patterns of few variables."""

from mustoccur.chains import is_avoidable
from mustoccur.errors import InvalidPlace
from mustoccur.matching import find, is_place
from mustoccur.patterns import VARIABLES, check_count, check_pattern, check_text, is_pattern, normal, variables

MOST_LISTED = 3


def as_text(pattern):
    """The text that stands for the pattern: each variable is replaced by its number."""
    return tuple([VARIABLES.index(name) for name in pattern])


def as_pattern(text):
    """The pattern that the text stands for."""
    return "".join([VARIABLES[number] for number in text])


def find_in_pattern(pattern, other):
    """The first place of the pattern in the other one, with patterns as values, or None."""
    check_pattern(pattern)
    check_pattern(other)
    place = find(pattern, as_text(other))
    if place is None:
        return None
    start, values = place
    return start, {name: as_pattern(values[name]) for name in values}


def precedes(pattern, other):
    """Whether the pattern occurs in the other one."""
    return find_in_pattern(pattern, other) is not None


def are_alike(pattern, other):
    """Whether each of the two patterns occurs in the other one."""
    return normal(pattern) == normal(other)


def is_pattern_place(pattern, other, value):
    """Whether any value is a place of the pattern in the other one, with patterns as values."""
    if not isinstance(value, tuple) or len(value) != 2:
        return False
    start, values = value
    if not isinstance(values, dict) or not all([is_pattern(word) for word in values.values()]):
        return False
    return is_place(pattern, as_text(other), (start, {name: as_text(values[name]) for name in values}))


def spelled(word, values):
    """The word with each variable replaced by its value, a text."""
    return tuple([letter for name in word for letter in values[name]])


def compose(pattern, other, inner, text, outer):
    """The place of the pattern in the text that its place inner in other, and the place outer of other, make."""
    check_pattern(pattern)
    check_pattern(other)
    check_text(text)
    if not is_pattern_place(pattern, other, inner):
        raise InvalidPlace(inner)
    if not is_place(other, text, outer):
        raise InvalidPlace(outer)
    if pattern == "":
        return 0, {}
    inner_start, words = inner
    outer_start, values = outer
    start = outer_start + len(spelled(other[:inner_start], values))
    return start, {name: spelled(words[name], values) for name in variables(pattern)}


def longer_by_one(pattern, names):
    """The unavoidable normal forms, ascending, of the pattern with one of these names added at its end."""
    longer = [pattern + name for name in names]
    return [each for each in longer if normal(each) == each and not is_avoidable(each)]


def unavoidable_patterns(count):
    """The normal forms of all unavoidable patterns with exactly count variables, by length, then as strings."""
    check_count(count, 0, MOST_LISTED)
    names = VARIABLES[:count]
    found = []
    level = [""]
    # An unavoidable pattern begins with unavoidable ones, and with so few variables none is longer than some length.
    while level:
        found += [pattern for pattern in level if len(variables(pattern)) == count]
        level = [longer for pattern in level for longer in longer_by_one(pattern, names)]
    return found
