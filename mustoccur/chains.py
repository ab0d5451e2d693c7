"""Chains of unavoidable patterns, and what proves that a pattern is avoidable."""

from mustoccur.errors import NotFree
from mustoccur.graph import free_sets, is_free
from mustoccur.patterns import check_pattern, delete, is_pattern, is_variable_set


def shortest_ways(whole, list_free, remove):
    """A dict: for each pattern that is reached, the fewest free sets that lead to it, one after the other.

    What whole is decides list_free, which gives its non-empty free sets, and remove, which deletes one of them.
    """
    ways = {whole: []}
    queue = [whole]
    at = 0
    while at < len(queue):
        here = queue[at]
        at += 1
        for letters in list_free(here):
            rest = remove(here, letters)
            if rest not in ways:
                ways[rest] = ways[here] + [letters]
                queue.append(rest)
    return ways


def chain(pattern):
    """A chain of the pattern with the fewest steps, or None if the pattern is avoidable."""
    check_pattern(pattern)
    return shortest_ways(pattern, free_sets, delete).get("")


def is_step(pattern, value):
    """Whether any value is a non-empty variable set that is free in the pattern."""
    if not is_variable_set(value) or value == "":
        return False
    return all([name in pattern for name in value]) and is_free(pattern, value)


def is_chain(pattern, value):
    """Whether any value is a chain of the pattern."""
    check_pattern(pattern)
    if not isinstance(value, (list, tuple)):
        return False
    rest = pattern
    for letters in value:
        if not is_step(rest, letters):
            return False
        rest = delete(rest, letters)
    return rest == ""


def is_avoidable(pattern):
    """Whether the pattern has no chain."""
    return chain(pattern) is None


def is_locked(pattern):
    """Whether the pattern is not empty and has no non-empty free set."""
    check_pattern(pattern)
    return pattern != "" and free_sets(pattern) == []


def reached(pattern):
    """All patterns that are reached from the pattern, ascending."""
    check_pattern(pattern)
    return sorted(shortest_ways(pattern, free_sets, delete))


def is_refutation(pattern, value):
    """Whether any value is a list or tuple of non-empty patterns, with this one, that no free deletion leaves."""
    check_pattern(pattern)
    if not isinstance(value, (list, tuple)):
        return False
    if not all([is_pattern(member) and member != "" for member in value]):
        return False
    members = {member: True for member in value}
    if pattern not in members:
        return False
    return all([stays_among(member, members) for member in members])


def stays_among(pattern, members):
    """Whether the pattern without each of its non-empty free sets is a key of the dict members."""
    return all([delete(pattern, letters) in members for letters in free_sets(pattern)])


def locked_patterns(pattern):
    """The locked patterns among those that are reached from the pattern, ascending."""
    return [rest for rest in reached(pattern) if is_locked(rest)]


def delete_free(pattern, letters):
    """The pattern without a free set."""
    if not is_free(pattern, letters):
        raise NotFree(letters)
    return delete(pattern, letters)
