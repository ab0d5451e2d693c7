"""The universal texts: a pattern that has a chain of r steps occurs in the one of number r, and the other way round."""

from mustoccur.chains import is_chain
from mustoccur.errors import InvalidChain, InvalidPlace
from mustoccur.graph import components, touches
from mustoccur.matching import is_place
from mustoccur.patterns import check_count, check_pattern, delete, variables

GREATEST_COUNT = 12
GREATEST_INDEX = 10 ** 18


def universal(count):
    """The universal text of this number."""
    check_count(count, 0, GREATEST_COUNT)
    text = ()
    for letter in range(count):
        text = text + (letter,) + text
    return text


def universal_letter(index):
    """The letter at this index of each universal text that is long enough."""
    check_count(index, 0, GREATEST_INDEX)
    rest = index + 1
    letter = 0
    while rest % 2 == 0:
        rest //= 2
        letter += 1
    return letter


def place_from_chain(pattern, steps):
    """A place of the pattern in the universal text whose number is the number of steps of the chain."""
    check_pattern(pattern)
    if not is_chain(pattern, steps):
        raise InvalidChain(steps)
    rests = [pattern]
    for letters in steps:
        rests.append(delete(rests[-1], letters))
    start = 0
    values = {}
    for number in reversed(range(len(steps))):
        start, values = raised(rests[number], steps[number], start, values)
    return start, values


def raised(pattern, letters, start, values):
    """The place in the next universal text that comes of a place of the pattern without a free set."""
    before = ""
    after = ""
    # Exactly one 0 stands between two neighbours. All nodes of a component agree on the side that it belongs to, and
    # a deleted variable, which is this 0, decides it.
    for left, right in components(pattern):
        if touches(right, letters):
            before += right
        else:
            after += left
    more = {}
    for name in variables(pattern):
        more[name] = (0,) if name in letters else spread(values[name], name in before, name in after)
    return 2 * start + (0 if pattern[0] in before else 1), more


def spread(text, before, after):
    """The text with its letters raised by one and a 0 between all neighbours, if asked for also before and after it."""
    found = [0] if before else []
    for at, letter in enumerate(text):
        found += [letter + 1] if at == 0 else [0, letter + 1]
    return tuple(found + [0] if after else found)


def lowered(text):
    """The text without the letters 0, all others lowered by one."""
    return tuple([letter - 1 for letter in text if letter > 0])


def chain_from_place(pattern, count, place):
    """A chain of at most count steps, made of a place of the pattern in the universal text of this number."""
    check_pattern(pattern)
    text = universal(count)
    if not is_place(pattern, text, place):
        raise InvalidPlace(place)
    values = place[1]
    steps = []
    while values:
        letters = "".join([name for name in sorted(values) if values[name] == (0,)])
        if letters != "":
            steps.append(letters)
        values = {name: lowered(values[name]) for name in values if name not in letters}
    return steps
