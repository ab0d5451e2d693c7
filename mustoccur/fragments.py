"""Isolated variables, fragments of patterns, and formulas."""

from mustoccur.chains import shortest_ways
from mustoccur.errors import InvalidFormula, TooLarge
from mustoccur.graph import check_members, free_among, keeps_sides, linked_parts, links
from mustoccur.patterns import (
    LONGEST_PATTERN, MOST_VARIABLES, VARIABLES, check_pattern, check_variable_set, delete, is_pattern)

MOST_FRAGMENTS = 20


def isolated(pattern):
    """The variables that occur once in the pattern, a variable set."""
    check_pattern(pattern)
    return "".join([name for name in VARIABLES if pattern.count(name) == 1])


def fragments(pattern):
    """The maximal blocks of the pattern without isolated variables, in order."""
    single = isolated(pattern)
    marked = "".join([" " if name in single else name for name in pattern])
    return marked.split()


def is_formula(value):
    """Whether any value is a formula."""
    if not isinstance(value, (list, tuple)) or len(value) > MOST_FRAGMENTS:
        return False
    if not all([is_pattern(fragment) and fragment != "" for fragment in value]):
        return False
    return len(names_in(value)) <= MOST_VARIABLES


def check_formula(value):
    """Raise InvalidFormula if the value is not a formula."""
    if not is_formula(value):
        raise InvalidFormula(value)


def names_in(formula):
    """The different variables of all fragments together, ascending."""
    return sorted(set("".join(formula)))


def joined(formula):
    """The fragments with one new variable between each two neighbours, a pattern."""
    check_formula(formula)
    names = names_in(formula)
    gaps = max(len(formula) - 1, 0)
    if len(names) + gaps > MOST_VARIABLES:
        raise TooLarge(MOST_VARIABLES)
    if len("".join(formula)) + gaps > LONGEST_PATTERN:
        raise TooLarge(LONGEST_PATTERN)
    # The empty string follows the last fragment.
    between = [name for name in VARIABLES if name not in names][:gaps] + [""]
    return "".join([fragment + name for fragment, name in zip(formula, between)])


def formula_parts(formula):
    """The components of the adjacency graph of all fragments together."""
    return linked_parts(names_in(formula), [link for fragment in formula for link in links(fragment)])


def formula_is_free(formula, letters):
    """Whether the variable set is free in the formula."""
    check_formula(formula)
    check_members("".join(formula), letters)
    return keeps_sides(formula_parts(formula), letters)


def formula_free_sets(formula):
    """All non-empty free sets of the formula, ascending."""
    return free_among(names_in(formula), formula_parts(formula))


def shortened(formula, letters):
    """The tuple of what is left of the fragments without the variables of a variable set."""
    left = [delete(fragment, letters) for fragment in formula]
    return tuple([fragment for fragment in left if fragment != ""])


def formula_delete(formula, letters):
    """The formula without the variables of a variable set."""
    check_formula(formula)
    check_variable_set(letters)
    return list(shortened(formula, letters))


def formula_chain(formula):
    """A chain of the formula with the fewest steps, or None if the formula is avoidable."""
    check_formula(formula)
    return shortest_ways(tuple(formula), formula_free_sets, shortened).get(())


def formula_is_avoidable(formula):
    """Whether the formula has no chain."""
    return formula_chain(formula) is None
