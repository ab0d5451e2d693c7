"""Matches and places of patterns in texts."""

from mustoccur.errors import TooLarge
from mustoccur.patterns import are_values, check_pattern, check_text, is_plain_integer
from mustoccur.search import Search, follow

MOST_MATCHES = 1000


def matches(pattern, text):
    """The list of all matches of the pattern and the text, in order."""
    check_pattern(pattern)
    check_text(text)
    if pattern == "":
        return [{}] if text == () else []
    if len(pattern) > len(text):
        return []
    search = Search(pattern, text, True, MOST_MATCHES + 1)
    search.collect(0, 0, {}, {})
    if len(search.found) > MOST_MATCHES:
        raise TooLarge(MOST_MATCHES)
    return search.found


def find(pattern, text):
    """The first place of the pattern in the text, or None."""
    check_pattern(pattern)
    check_text(text)
    if pattern == "":
        return 0, {}
    search = Search(pattern, text, False, 1)
    for start in range(len(text) - len(pattern) + 1):
        search.collect(0, start, {}, {})
        if search.found:
            return start, search.found[0]
    return None


def occurs(pattern, text):
    """Whether the pattern has a place in the text."""
    return find(pattern, text) is not None


def is_place(pattern, text, value):
    """Whether any value is a place of the pattern in the text."""
    check_pattern(pattern)
    check_text(text)
    if not isinstance(value, tuple) or len(value) != 2:
        return False
    start, values = value
    if not is_plain_integer(start) or not are_values(pattern, values):
        return False
    # A start below 0 would count from the end, and a start behind the end would be a place of the empty pattern.
    if start < 0 or start > len(text):
        return False
    return follow(text, pattern, start, values) is not None
