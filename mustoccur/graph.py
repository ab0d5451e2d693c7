"""The adjacency graph of a pattern and its free sets."""

from mustoccur.errors import InvalidVariables
from mustoccur.patterns import check_pattern, check_variable_set


def links(pattern):
    """The pairs (left variable, right variable) of the edges, ascending."""
    check_pattern(pattern)
    return sorted(set(list(zip(pattern, pattern[1:]))))


def merged(parts, first, second):
    """The parts after an edge between the left node of first and the right node of second has joined them."""
    near = [(left, right) for left, right in parts if first in left or second in right]
    apart = [(left, right) for left, right in parts if first not in left and second not in right]
    lefts = "".join(sorted("".join([left for left, right in near])))
    rights = "".join(sorted("".join([right for left, right in near])))
    return apart + [(lefts, rights)]


def linked_parts(names, edges):
    """The components, ascending, of the graph that has the nodes of these names and these edges."""
    parts = [(name, "") for name in names] + [("", name) for name in names]
    for first, second in edges:
        parts = merged(parts, first, second)
    return sorted(parts)


def components(pattern):
    """The pairs (variables of the left nodes, variables of the right nodes) of the components, ascending."""
    check_pattern(pattern)
    return linked_parts(sorted(set(pattern)), links(pattern))


def touches(names, letters):
    """Whether one of the names is a member of the variable set."""
    return any([name in letters for name in names])


def keeps_sides(parts, letters):
    """Whether none of the components has both a left and a right node of members of the variable set."""
    return not any([touches(left, letters) and touches(right, letters) for left, right in parts])


def check_members(pattern, letters):
    """Raise InvalidVariables if this is not a variable set, or if a member does not occur in the pattern."""
    check_variable_set(letters)
    if not all([name in pattern for name in letters]):
        raise InvalidVariables(letters)


def is_free(pattern, letters):
    """Whether the variable set is free in the pattern."""
    check_pattern(pattern)
    check_members(pattern, letters)
    return keeps_sides(components(pattern), letters)


def free_among(names, parts):
    """All non-empty sets of these names, given ascending, that are free in a graph with these components, ascending."""
    found = [""]
    # Each subset of a free set is free, so a set that is not free is never made longer.
    for name in names:
        found = found + [letters + name for letters in found if keeps_sides(parts, letters + name)]
    return sorted(found[1:])


def free_sets(pattern):
    """All non-empty free sets, ascending."""
    parts = components(pattern)
    return free_among(sorted(set(pattern)), parts)


def is_within(letters, others):
    """Whether the others are a variable set with all members of letters and more."""
    return letters != others and all([name in others for name in letters])


def greatest_free_sets(pattern):
    """The non-empty free sets that are not contained in another free set, ascending."""
    found = free_sets(pattern)
    return [letters for letters in found if not any([is_within(letters, others) for others in found])]
