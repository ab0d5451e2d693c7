"""Values of many kinds for the tests, and slow but plain searches that the program is compared with."""

# What [2] allows where "any value" is said.
MANY_KINDS = [
    None, True, False, 0, 1, -1, 999999, 10 ** 30 - 1, 1 - 10 ** 30,
    "", "a", "ab", "ba", "aba", "A", "a b", "a\n", "~", "0", "1 2", "[]", "z" * 41,
    (), (1,), (1, 2), ("a",), (None,), (True,), (False, 1), (-1,), (1000000,), ((1,),), (0, {}), (0, {"a": (1,)}),
    [], [1], ["a"], [[], [1]], [None, (1, 2)],
    {}, {"a": 1}, {"a": (1,)}, {"a": ()}, {1: (1,)}, {(1, 2): [3]}, {None: None}, {"b": {"c": [1]}},
    ((((((((),),),),),),),), [[[[[[[[]]]]]]]], {"a": {"a": {"a": {"a": {"a": {"a": {"a": {}}}}}}}},
]

NOT_PATTERNS = [
    None, True, 0, 5, 10 ** 30 - 1, (), ("a",), ["a"], [], {}, {"a": 1}, "A", "aB", "a ", " ", "a\n", "ab0", "a-b",
    "~", "`", "{", "a" * 41, "abcdefghi", "abcdefghabcdefghi",
]

NOT_TEXTS = [
    None, True, 0, 5, "", "a", "12", [], [1, 2], {}, {0: 1}, (True,), (1, False), (None,), ("1",), ((1,),), ([1],),
    (-1,), (1000000,), (0, 10 ** 29), (0,) * 4097,
]

NOT_VARIABLE_SETS = [
    None, True, 0, 5, (), ("a",), ["a", "b"], [], {}, {"a": 1}, "ba", "aa", "abb", "abca", "acb", "A", "aB", "a b",
    " ", "a,b", "a\n", "ab1", "`", "{",
]


def names_of(pattern):
    """The variables in the order of first occurrence."""
    return list(dict.fromkeys(pattern))


def slow_lengths(pattern, size):
    """All lists of lengths, in order, with which the pattern has at most size letters."""
    names = names_of(pattern)
    rows = [[]]
    for _ in names:
        rows = [row + [more] for row in rows for more in range(1, size + 1)]
        rows = [row for row in rows if sum((row + [1] * 8)[names.index(name)] for name in pattern) <= size]
    return rows


def slow_values(pattern, text, lengths):
    """The values with these lengths that begin with the text, and where they end, or None."""
    names = names_of(pattern)
    values = {}
    here = 0
    for name in pattern:
        block = text[here:here + lengths[names.index(name)]]
        if values.setdefault(name, block) != block:
            return None
        here += len(block)
    return values, here


def slow_starts(pattern, text):
    """All values, in order, that begin with the text, and where they end."""
    tried = [slow_values(pattern, text, lengths) for lengths in slow_lengths(pattern, len(text))]
    return [hit for hit in tried if hit is not None]


def slow_matches(pattern, text):
    """All matches in order."""
    return [values for values, end in slow_starts(pattern, text) if end == len(text)]


def slow_find(pattern, text):
    """The first place, or None."""
    for start in range(len(text) + 1):
        hits = slow_starts(pattern, text[start:])
        if hits:
            return start, hits[0][0]
    return None


def square_free(size):
    """A text over three letters in which the pattern aa does not occur."""
    images = {0: (0, 1, 2), 1: (0, 2), 2: (1,)}
    text = (0,)
    while len(text) < size:
        text = tuple(letter for old in text for letter in images[old])
    return text[:size]


def overlap_free(size):
    """A text over two letters in which the patterns aaa and ababa do not occur."""
    return tuple(bin(at).count("1") % 2 for at in range(size))
