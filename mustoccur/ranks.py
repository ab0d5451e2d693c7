"""Borders and ranks of texts, and the places of unavoidable patterns that a rank proves."""

from mustoccur.chains import chain
from mustoccur.errors import Avoidable, RankTooSmall, TooLarge
from mustoccur.patterns import check_count, check_pattern, check_text
from mustoccur.universal import GREATEST_COUNT, place_from_chain, universal

LONGEST_RANKED = 400


def check_size(text):
    """Raise TooLarge if the text is too long for this module."""
    if len(text) > LONGEST_RANKED:
        raise TooLarge(LONGEST_RANKED)


def longest_borders(text):
    """A list: at index k the longest border of the first k letters, or 0."""
    found = [0] * (len(text) + 1)
    border = 0
    for size in range(2, len(text) + 1):
        border = extended(text, found, border, size)
        found[size] = border
    return found


def extended(text, longest, border, size):
    """The longest border of the first size letters that makes this border, or one within it, longer by one; or 0.

    The given border is one of the letters before the last one, and longest has the longest borders of fewer letters.
    """
    letter = text[size - 1]
    while border > 0 and text[border] != letter:
        border = longest[border]
    return border + 1 if text[border] == letter else 0


def half_borders(text):
    """A list: at index k the longest border of the first k letters that is less than half of k, or 0."""
    longest = longest_borders(text)
    found = [0] * (len(text) + 1)
    border = 0
    for size in range(2, len(text) + 1):
        border = extended(text, longest, border, size)
        while 2 * border >= size:
            border = longest[border]
        found[size] = border
    return found


def prefix_ranks(text):
    """A list: at index k the rank of the first k letters."""
    ranks = [0]
    for border in half_borders(text)[1:]:
        ranks.append(ranks[border] + 1)
    return ranks


def borders(text):
    """The borders of the text, ascending."""
    check_text(text)
    check_size(text)
    longest = longest_borders(text)
    found = []
    border = longest[-1]
    while border > 0:
        found = [border] + found
        border = longest[border]
    return found


def rank(text):
    """The rank of the text."""
    check_text(text)
    check_size(text)
    return prefix_ranks(text)[-1]


def rank_values(text, count):
    """Non-empty texts, count of them, whose substitution for the letters of the universal text is the text."""
    check_text(text)
    check_count(count, 1, GREATEST_COUNT)
    check_size(text)
    height = rank(text)
    if height < count:
        raise RankTooSmall(height)
    return split_block(text, count)


def split_block(text, count):
    """The same for a text whose rank is known to be count or more."""
    halves = half_borders(text)
    size = len(text)
    middles = []
    while len(middles) < count - 1:
        border = halves[size]
        middles = [text[border:size - border]] + middles
        size = border
    return [text[:size]] + middles


def best_block(text):
    """The greatest rank of a block, and start and end of the first block of this rank."""
    check_text(text)
    check_size(text)
    best = (0, 0, 0)
    for start in range(len(text)):
        for size, height in enumerate(prefix_ranks(text[start:])):
            if height > best[0]:
                best = (height, start, start + size)
    return best


def find_universal(text, count):
    """Start and end of the first block of rank count or more, and its rank values for count; or None."""
    check_text(text)
    check_count(count, 1, GREATEST_COUNT)
    check_size(text)
    for start in range(len(text)):
        for size, height in enumerate(prefix_ranks(text[start:])):
            if height >= count:
                end = start + size
                return start, end, split_block(text[start:end], count)
    return None


def power(base, exponent):
    """The base to the power of the exponent."""
    result = 1
    for step in range(exponent):
        result *= base
    return result


def length_bound(count, letters):
    """A length from which on each text with so many different letters has a block of rank count or more."""
    check_count(count, 1, 3)
    check_count(letters, 1, 4)
    bound = 1
    for step in range(count - 1):
        bound = (power(letters, bound) + 1) * (bound + 1) - 1
    return bound


def find_unavoidable(pattern, text):
    """A place of an unavoidable pattern in a text that has a block of sufficient rank."""
    check_pattern(pattern)
    check_text(text)
    check_size(text)
    steps = chain(pattern)
    if steps is None:
        raise Avoidable(pattern)
    height, start, end = best_block(text)
    if height < len(steps):
        raise RankTooSmall(height)
    if pattern == "":
        return 0, {}
    parts = split_block(text[start:end], len(steps))
    inner, values = place_from_chain(pattern, steps)
    before = filled(universal(len(steps))[:inner], parts)
    return start + len(before), {name: filled(values[name], parts) for name in values}


def filled(text, parts):
    """The text with each letter replaced by the part of this number."""
    return tuple([letter for number in text for letter in parts[number]])
