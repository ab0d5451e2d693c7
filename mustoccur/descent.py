"""From a place in the avoiding text to shorter ones, and so to a chain.

Each value begins and ends at fixed remainders modulo the size of the letter blocks, since each letter tells its own.
"""

from mustoccur.avoider import GREATEST_START, avoiding_text, letter_of, modulus
from mustoccur.errors import InvalidPlace
from mustoccur.patterns import (
    LONGEST_TEXT, are_values, check_filled_pattern, delete, is_plain_integer, substitute, variables)


def is_avoiding_place(pattern, value):
    """Whether any value is a place of the pattern in the avoiding text for the number of its variables."""
    check_filled_pattern(pattern)
    if not isinstance(value, tuple) or len(value) != 2:
        return False
    start, values = value
    if not is_plain_integer(start) or start < 0 or start > GREATEST_START or not are_values(pattern, values):
        return False
    size = sum([len(values[name]) for name in pattern])
    if size > LONGEST_TEXT:
        return False
    return substitute(pattern, values) == avoiding_text(len(variables(pattern)), size, start=start)


def check_avoiding_place(pattern, place):
    """Raise InvalidPlace if this is not a place of the pattern in the avoiding text."""
    if not is_avoiding_place(pattern, place):
        raise InvalidPlace(place)


def descend(pattern, place):
    """Free sets, the pattern that is left without them, and a shorter place of it in the same avoiding text."""
    check_avoiding_place(pattern, place)
    return descend_once(len(variables(pattern)), pattern, place)


def chain_from_avoiding(pattern, place):
    """A chain of the pattern, made of repeated descents."""
    check_avoiding_place(pattern, place)
    count = len(variables(pattern))
    steps = []
    rest = pattern
    while rest != "":
        more, rest, place = descend_once(count, rest, place)
        steps += more
    return steps


def descend_once(count, pattern, place):
    """What descend returns, for a place in the avoiding text for count, which may be more than the variables."""
    start, values = place
    size = modulus(count)
    starts = value_starts(pattern, start, values)
    mark = uncut_index(size, starts, values)
    inner = {name: parents(count, mark, starts[name], values[name]) for name in starts}
    steps = free_steps([name for name in starts if inner[name] == ()], size, mark, starts)
    rest = delete(pattern, "".join(sorted("".join(steps))))
    if rest == "":
        return steps, rest, (0, {})
    # The first marked pair at or behind the start belongs to the first letter of the new place.
    return steps, rest, ((start - mark + size - 1) // size, {name: inner[name] for name in variables(rest)})


def value_starts(pattern, start, values):
    """For each variable, in the order of first occurrence, the index in the avoiding text where it first stands."""
    starts = {}
    here = start
    for name in pattern:
        if name not in starts:
            starts[name] = here
        here += len(values[name])
    return starts


def uncut_index(size, starts, values):
    """An index of the letter blocks such that no value is cut between it and the next one in any of them.

    There are fewer starts and ends of values than such indexes.
    """
    cuts = [starts[name] % size for name in starts]
    cuts += [(starts[name] + len(values[name])) % size for name in starts]
    mark = 0
    while mark + 1 in cuts:
        mark += 1
    return mark


def parents(count, mark, start, text):
    """The letters whose blocks have their letters at mark and mark + 1 in this text that begins at index start."""
    size = modulus(count)
    first = (mark - start) % size
    return tuple([letter_of(count, mark, text[at], text[at + 1]) for at in range(first, len(text) - 1, size)])


def free_steps(names, size, mark, starts):
    """The variables whose values have no marked pair as free sets, those with the greatest start first.

    Their values lie between two marked pairs, so starts are counted from the one before. A value ends behind its
    start, and all that was deleted before it starts later: so no component has both sides of the set.
    """
    groups = {}
    for name in sorted(names):
        distance = (starts[name] - mark - 1) % size
        groups[distance] = groups.get(distance, "") + name
    return [groups[distance] for distance in sorted(groups, reverse=True)]
