"""Slow but plain answers about patterns, written after the words of the document, that the program is compared with."""

import itertools
import random


def some_patterns(seed, many, names="abcdefgh", longest=40):
    """Patterns of many forms, the same ones in each run."""
    chance = random.Random(seed)
    found = []
    for _ in range(many):
        used = chance.sample(names, chance.randint(1, len(names)))
        found.append("".join(chance.choice(used) for _ in range(chance.randint(1, longest))))
    return found


def grown_patterns(seed, many, names="abcdefgh"):
    """Unavoidable and nearly unavoidable patterns: a variable is put between all, or some, neighbours again and again."""
    chance = random.Random(seed)
    found = []
    for _ in range(many):
        pattern = ""
        for name in chance.sample(names, len(names)):
            dense = chance.choice((0.3, 0.6, 0.95, 1))
            slots = [name if chance.random() < dense else "" for _ in range(len(pattern) + 1)]
            slots[chance.randrange(len(slots))] = name
            pattern = "".join(slot + old for slot, old in zip(slots, pattern + " ")).strip()
            if len(pattern) > 40:
                pattern = pattern[:40]
        found.append(pattern)
    return found


def short_patterns(names, longest):
    """All patterns over these names of at most this length, the empty one too."""
    return ["".join(row) for size in range(longest + 1) for row in itertools.product(names, repeat=size)]


def sets_of(pattern):
    """All variable sets, the empty one too, with variables of the pattern."""
    names = sorted(set(pattern))
    return ["".join(row) for size in range(len(names) + 1) for row in itertools.combinations(names, size)]


def without(pattern, letters):
    return "".join(name for name in pattern if name not in letters)


def plain_components(*words):
    """The components of the graph of all words as sets of nodes ("left", name) and ("right", name)."""
    left = {(side, name) for word in words for name in word for side in ("left", "right")}
    edges = {(("left", first), ("right", second)) for word in words for first, second in zip(word, word[1:])}
    found = []
    while left:
        part = {min(left)}
        while True:
            more = {node for edge in edges if part & set(edge) for node in edge}
            if more <= part:
                break
            part |= more
        found.append(part)
        left -= part
    return found


def no_part_has_both_sides(parts, letters):
    for part in parts:
        sides = {side for side, name in part if name in letters}
        if len(sides) == 2:
            return False
    return True


def plain_is_free(pattern, letters):
    return no_part_has_both_sides(plain_components(pattern), letters)


def plain_free_sets(pattern):
    """All non-empty free sets, ascending."""
    parts = plain_components(pattern)
    return sorted(letters for letters in sets_of(pattern) if letters and no_part_has_both_sides(parts, letters))


def plain_greatest(pattern):
    """The non-empty free sets that are not contained in another one, ascending."""
    found = plain_free_sets(pattern)
    return [letters for letters in found if not any(set(letters) < set(others) for others in found)]


def plain_reached(pattern):
    """A dict: each reached pattern with the fewest deletions that lead to it."""
    steps = {pattern: 0}
    level = [pattern]
    while level:
        after = []
        for here in level:
            for letters in plain_free_sets(here):
                rest = without(here, letters)
                if rest not in steps:
                    steps[rest] = steps[here] + 1
                    after.append(rest)
        level = after
    return steps


def plain_is_chain(pattern, steps):
    for letters in steps:
        if letters == "" or letters not in sets_of(pattern) or not plain_is_free(pattern, letters):
            return False
        pattern = without(pattern, letters)
    return pattern == ""


def nested(names):
    """The word x, then w y w with a new variable y, and so on: a, aba, abacaba."""
    word = ""
    for name in names:
        word = word + name + word
    return word
