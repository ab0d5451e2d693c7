"""The avoiding text by its definition, and many places in it, for the tests."""

import functools
import random

MODULI = {1: 5, 2: 7, 3: 11, 4: 11, 5: 13, 6: 17, 7: 17, 8: 19}


@functools.lru_cache(maxsize=None)
def plain_block(count, letter):
    q = MODULI[count]
    a, b = letter // q, letter % q
    return tuple(j * q + (a + b * j) % q for j in range(q))


def plain_letter(count, index):
    """The letter at this index, from the letter at index // q."""
    if index == 0:
        return 0
    q = MODULI[count]
    return plain_block(count, plain_letter(count, index // q))[index % q]


def plain_avoiding(count, length, start):
    return tuple(plain_letter(count, start + at) for at in range(length))


def filled(pattern, values):
    return tuple(letter for name in pattern for letter in values[name])


def plain_is_avoiding_place(count, pattern, place):
    """Whether this is a place of the pattern in the avoiding text for count, with a start and a block in their range."""
    start, values = place
    block = filled(pattern, values)
    return (0 <= start <= 10 ** 18 and len(block) <= 4096 and all(values.values()) and set(values) == set(pattern)
            and block == plain_avoiding(count, len(block), start))


def lift(count, place):
    """The place that all letters replaced by their blocks make."""
    start, values = place
    lifted = {name: tuple(letter for old in text for letter in plain_block(count, old))
              for name, text in values.items()}
    return MODULI[count] * start, lifted


def repeats(count, start, size):
    """Places of aba in a block of the avoiding text, as long as possible for their two starts."""
    text = plain_avoiding(count, size, start)
    found = []
    for low in range(size):
        for high in range(low + 2, size):
            if text[low] == text[high] and (low == 0 or text[low - 1] != text[high - 1]):
                same = 1
                while high + same < size and low + same < high - 1 and text[low + same] == text[high + same]:
                    same += 1
                found.append((start + low, {"a": text[low:low + same], "b": text[low + same:high]}))
    return found


def cut_value(chance, pattern, values, other):
    """One value cut in two at each of its occurrences, often near its ends; the second part becomes the other's."""
    long = [name for name in values if len(values[name]) > 1]
    if not long:
        return None
    name = chance.choice(long)
    text = values[name]
    at = chance.randrange(1, len(text))
    if chance.random() < 0.6:
        at = chance.choice([min(at, chance.randint(1, 6)), max(at, len(text) - chance.randint(1, 6))])
    return pattern.replace(name, name + other), {**values, name: text[:at], other: text[at:]}


def part_occurrence(chance, pattern, values, other):
    """One occurrence of a variable that occurs again becomes the other's, with an equal value."""
    often = [at for at, name in enumerate(pattern) if pattern.count(name) > 1]
    if not often:
        return None
    at = chance.choice(often)
    return pattern[:at] + other + pattern[at + 1:], {**values, other: values[pattern[at]]}


def cut(chance, pattern, place, count):
    """A place of a pattern with count variables that is the same block, cut more finely; or None."""
    start, values = place
    while len(values) < count:
        other = next(name for name in "abcdefgh" if name not in values)
        change = part_occurrence if chance.random() < 0.3 else cut_value
        made = change(chance, pattern, values, other) or cut_value(chance, pattern, values, other)
        if made is None or len(made[0]) > 40:
            return None
        pattern, values = made
    return pattern, (start, {name: values[name] for name in dict.fromkeys(pattern)})


def trim(chance, pattern, place):
    """The same with the first letters of the first value and the last letters of the last one moved out of them.

    Only for the pattern aba: they belong to b then, or to no value.
    """
    start, values = place
    size = len(values["a"])
    low = chance.randrange(0, size)
    high = chance.randrange(low + 1, size + 1)
    inner = values["a"]
    return start + low, {"a": inner[low:high], "b": inner[high:] + values["b"] + inner[:low]}


def nested_places(count, start):
    """Places of abacaba: in a place of aba, the value of a is one with equal letters at two indexes."""
    found = []
    for place in repeats(count, start, 3 * MODULI[count]):
        start, values = lift(count, lift(count, place))
        inner = values["a"]
        if start > 10 ** 18 or len(filled("aba", values)) > 4096:
            continue
        for low in range(0, len(inner), 5):
            for high in range(low + 2, len(inner)):
                if inner[low] == inner[high]:
                    outer = inner[high + 1:] + values["b"] + inner[:low]
                    found.append((start + low, {"a": inner[low:low + 1], "b": inner[low + 1:high], "c": outer}))
    return found


def many_places(seed, many):
    """Triples (count, pattern, place) of many forms, the same ones in each run."""
    chance = random.Random(seed)
    rows = {}
    for count in range(2, 9):
        starts = [0, chance.randrange(10 ** 5), chance.randrange(10 ** 12), chance.randrange(10 ** 15)]
        rows[count] = [place for start in starts for place in repeats(count, start, 6 * MODULI[count])]
    nests = {count: [place for start in (0, 40, 10 ** 14) for place in nested_places(count, start)]
             for count in (3, 4, 5)}
    found = []
    while len(found) < many:
        count = chance.randrange(1, 9)
        if count == 1 or chance.random() < 0.3:
            start = chance.choice([0, chance.randrange(200), chance.randrange(10 ** 18), 10 ** 18])
            pattern, place = "a", (start, {"a": plain_avoiding(count, chance.choice([count, count + 1, 8, 30, 200]), start)})
        elif count in nests and chance.random() < 0.4:
            pattern, place = "abacaba", chance.choice(nests[count])
        else:
            pattern, place = "aba", chance.choice(rows[count])
        for _ in range(chance.randrange(3)):
            lifted = lift(count, place)
            if lifted[0] <= 10 ** 18 and len(filled(pattern, lifted[1])) <= 4096:
                place = lifted
        if pattern == "aba" and chance.random() < 0.6:
            place = trim(chance, pattern, place)
        made = cut(chance, pattern, place, count)
        if made is not None:
            found.append((count, *made))
    return found
