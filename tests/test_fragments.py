"""Isolated variables, fragments and formulas: promises [2], [3], [7], [8], [9] and [19]."""

import itertools
import random
import re
import unittest

from mustoccur import fragments as module
from mustoccur.chains import chain, is_avoidable
from mustoccur.errors import InvalidFormula, InvalidPattern, InvalidVariables, TooLarge
from mustoccur.fragments import (
    formula_chain, formula_delete, formula_is_avoidable, formula_is_free, fragments, isolated, joined)
from mustoccur.patterns import is_pattern
from tests.checks import check_conventions, check_interface, check_refused
from tests.plain import (
    grown_patterns, nested, no_part_has_both_sides, plain_components, sets_of, short_patterns, some_patterns, without)
from tests.samples import MANY_KINDS, NOT_PATTERNS, NOT_VARIABLE_SETS

FORTY = ["a" * 40, "ab" * 20, "abcdefgh" * 5, nested("abcde") + "abacabadf", "z" * 39 + "y", "abcdefg" + "h" * 33]
PATTERNS = short_patterns("abc", 5) + some_patterns(81, 60) + grown_patterns(82, 60) + FORTY
NOT_FORMULAS = [kind for kind in MANY_KINDS if kind not in ([], (), ["a"], ("a",))] + [
    [""], ["a", ""], ("", "ab"), ["A"], ["ab", None], ["ab", ["a"]], [("a",)], ["a b"], ["a", "abcdefghi"], ["a"] * 21,
    ("abc",) * 21, ["abcd", "efgh", "i"], list("abcdefghi"), ("abcdefgh", "z"), ["a" * 41], {"a": "b"}, "ab", "",
    ["ab", "ba", 7], [True], ["a", "b\n"]]


def split_at(pattern, single):
    """The fragments, by a search for the isolated variables."""
    return [part for part in (re.split(f"[{single}]", pattern) if single else [pattern]) if part]


def some_formulas(seed, many, names="abcde", longest=6, most=5):
    """Formulas of many forms, the same ones in each run."""
    chance = random.Random(seed)
    found = []
    for _ in range(many):
        words = [some_patterns(chance.random(), 1, names, longest)[0] for _ in range(chance.randint(1, most))]
        found.append(words)
    return found


def cut_patterns(seed, many):
    """Fragments of unavoidable and nearly unavoidable patterns."""
    chance = random.Random(seed)
    found = []
    for pattern in grown_patterns(seed, many, "uvwxyz"):
        ends = sorted(chance.sample(range(1, len(pattern)), 2))
        found.append([pattern[:ends[0]], pattern[ends[0]:ends[1]], pattern[ends[1]:]])
    return found


SMALL = [list(row) for size in range(3) for row in itertools.product(short_patterns("ab", 3)[1:], repeat=size)]
LARGE = [["abcdefgh"] * 20, ["abcdefgh"[at % 8] for at in range(20)], list("stuvwxyz"), ["ab", "bc", "cd", "de"] * 5,
         ["abcdefgh" * 5] * 20, ["hg", "gf", "fe", "ed", "dc", "cb", "ba"], ["abac", "bacd", "efg", "hgf", "aha"],
         ["a"] * 20, ["abacabadabacaba", "efgh", "hgfe"], ["aab", "cdefgh"], ["z" * 40] + ["y"] * 19]
FORMULAS = SMALL + some_formulas(83, 120) + some_formulas(84, 60, "abcdefgh", 9, 20) + cut_patterns(85, 60) + LARGE


def plain_is_free(formula, letters):
    return no_part_has_both_sides(plain_components(*formula), letters)


def plain_free_sets(formula):
    parts = plain_components(*formula)
    return [letters for letters in sets_of("".join(formula)) if letters and no_part_has_both_sides(parts, letters)]


def plain_delete(formula, letters):
    return tuple(rest for rest in (without(word, letters) for word in formula) if rest)


def plain_steps(formula):
    """The fewest steps of a chain, or None: a search by levels."""
    level = {tuple(formula)}
    seen = set()
    steps = 0
    while level:
        if () in level:
            return steps
        seen |= level
        level = {plain_delete(here, letters) for here in level for letters in plain_free_sets(here)} - seen
        steps += 1
    return None


class Interface(unittest.TestCase):

    def test_names_and_parameters(self):
        check_interface(self, module, {
            "isolated": ["pattern"], "fragments": ["pattern"], "joined": ["formula"],
            "formula_is_free": ["formula", "letters"], "formula_delete": ["formula", "letters"],
            "formula_chain": ["formula"], "formula_is_avoidable": ["formula"]})

    def test_conventions(self):
        for pattern in ["", "abc", "abcab", "abcdefgh" * 5]:
            check_conventions(self, isolated, pattern)
            check_conventions(self, fragments, pattern)
        for formula in [[], (), ["ab", "ba"], ("ab", "ba"), ["aa"]]:
            for function in [joined, formula_chain, formula_is_avoidable]:
                check_conventions(self, function, formula)
            check_conventions(self, formula_is_free, formula, "a" if formula else "")
            check_conventions(self, formula_delete, formula, "ac")

    def test_not_patterns(self):
        for value in NOT_PATTERNS:
            check_refused(self, InvalidPattern, value, isolated, value)
            check_refused(self, InvalidPattern, value, fragments, value)

    def test_not_formulas(self):
        for value in NOT_FORMULAS:
            for function in [joined, formula_chain, formula_is_avoidable]:
                check_refused(self, InvalidFormula, value, function, value)
            for letters in ["", "a", "ba", None, "z"]:
                check_refused(self, InvalidFormula, value, formula_is_free, value, letters)
                check_refused(self, InvalidFormula, value, formula_delete, value, letters)

    def test_not_variable_sets(self):
        for value in NOT_VARIABLE_SETS:
            for formula in [[], ["ab", "ba"], ("abcdefgh",), ["a"] * 20]:
                check_refused(self, InvalidVariables, value, formula_is_free, formula, value)
                check_refused(self, InvalidVariables, value, formula_delete, formula, value)

    def test_lists_and_tuples(self):
        for formula in FORMULAS[:60] + LARGE[:3]:
            for function in [formula_chain, formula_is_avoidable]:
                self.assertEqual(function(formula), function(tuple(formula)))
            for letters in sets_of("".join(formula)):
                self.assertEqual(formula_delete(formula, letters), formula_delete(tuple(formula), letters))
                self.assertEqual(formula_is_free(formula, letters), formula_is_free(tuple(formula), letters))


class Isolated(unittest.TestCase):

    def test_examples(self):
        for pattern, single, parts in [
                ("", "", []), ("a", "a", []), ("abc", "abc", []), ("cab", "abc", []), ("aa", "", ["aa"]),
                ("abab", "", ["abab"]), ("abcab", "c", ["ab", "ab"]), ("caac", "", ["caac"]), ("aac", "c", ["aa"]),
                ("caa", "c", ["aa"]), ("aacbda", "bcd", ["aa", "a"]), ("zaya", "yz", ["a", "a"]),
                ("aba", "b", ["a", "a"]), ("abcdefgh", "abcdefgh", []), ("z" * 39 + "y", "y", ["z" * 39]),
                ("abcdefg" + "h" * 33, "abcdefg", ["h" * 33]), ("hgfedcba", "abcdefgh", [])]:
            with self.subTest(pattern=pattern):
                self.assertEqual(isolated(pattern), single)
                self.assertEqual(fragments(pattern), parts)

    def test_against_a_plain_look(self):
        for pattern in PATTERNS:
            single = "".join(sorted(name for name in pattern if pattern.count(name) == 1))
            self.assertEqual(isolated(pattern), single, pattern)
            self.assertEqual(fragments(pattern), split_at(pattern, single), pattern)
            self.assertIsInstance(fragments(pattern), list)

    def test_fragments_are_a_formula(self):
        for pattern in PATTERNS:
            self.assertIsInstance(formula_delete(fragments(pattern), ""), list)
            self.assertEqual(formula_delete(fragments(pattern), ""), fragments(pattern))


class Joined(unittest.TestCase):

    def test_examples(self):
        for formula, expected in [
                ([], ""), (["a"], "a"), (["z"], "z"), (["ab", "ba"], "abcba"), (["bc", "cb"], "bcacb"),
                (["ab", "ba", "a"], "abcbada"), (["a", "c", "e"], "abcde"), (["ace", "eca", "d", "d"], "acebecafdgd"),
                (["zz", "y"], "zzay"), (["a", "b", "c", "d"], "aebfcgd"), (["b", "b", "b", "b"], "babcbdb")]:
            with self.subTest(formula=formula):
                self.assertEqual(joined(formula), expected)
                self.assertEqual(joined(tuple(formula)), expected)

    def test_a_pattern_whose_new_variables_are_the_least(self):
        for formula in FORMULAS:
            used = set("".join(formula))
            gaps = max(len(formula) - 1, 0)
            if len(used) + gaps > 8 or sum(map(len, formula)) + gaps > 40:
                continue
            fresh = [name for name in "abcdefghijklmnopqrstuvwxyz" if name not in used][:gaps]
            expected = "".join(word + name for word, name in itertools.zip_longest(formula, fresh, fillvalue=""))
            self.assertEqual(joined(formula), expected, formula)
            self.assertTrue(is_pattern(expected))

    def check_too_large(self, limit, formula):
        for value in (formula, tuple(formula)):
            with self.subTest(limit=limit, formula=str(formula)[:60]):
                with self.assertRaises(TooLarge) as caught:
                    joined(value)
                self.assertEqual(caught.exception.limit, limit)

    def test_eight_variables(self):
        for formula in [["a"] * 8, ["abcd"] * 5, ["abcdefg", "g"], ["abcdefgh"], ["wxyz", "zyx", "w", "w", "w"]]:
            self.assertEqual(len(set(joined(formula))), 8)
        for formula in [["a"] * 9, ["abcd"] * 6, ["abcdefg", "g", "a"], ["abcdefgh", "a"], ["a"] * 20,
                        ["abcdefgh"] * 20, list("abcdefgh")]:
            self.check_too_large(8, formula)

    def test_forty_characters(self):
        for formula in [["a" * 40], ["a" * 20, "a" * 19], ["ab" * 10, "b" * 9, "a" * 9], ["a" * 26] + ["a"] * 7]:
            self.assertEqual(len(joined(formula)), 40)
        for formula in [["a" * 20, "a" * 20], ["a" * 40, "b"], ["ab" * 10, "b" * 9, "a" * 10], ["a" * 27] + ["a"] * 7,
                        ["abcdefg" * 5, "abcdef"]]:
            self.check_too_large(40, formula)

    def test_the_variables_first(self):
        for formula in [["a" * 40] * 20, ["abcdefgh" * 5, "a"], ["a" * 33] + ["a"] * 8]:
            self.check_too_large(8, formula)


class Free(unittest.TestCase):

    def test_examples(self):
        for formula, letters, expected in [
                ([], "", True), (["a"], "a", True), (["a"], "", True), (["aa"], "a", False), (["ab"], "ab", False),
                (["a", "b"], "ab", True), (["ab", "ba"], "a", True), (["ab", "ba"], "ab", False),
                (["ab", "cb", "cd"], "a", True), (["ab", "cb", "cd"], "ad", False), (["ab", "c"], "ac", True),
                (["ab", "cd"], "ac", True), (["ab", "cd"], "ad", True), (["ab", "cb", "ca"], "a", False)]:
            with self.subTest(formula=formula, letters=letters):
                self.assertIs(formula_is_free(formula, letters), expected)

    def test_against_a_plain_look_at_every_component(self):
        for formula in FORMULAS:
            sets = sets_of("".join(formula))
            parts = plain_components(*formula)
            for letters in sets if len(sets) <= 64 else sets[::7]:
                expected = no_part_has_both_sides(parts, letters)
                self.assertIs(formula_is_free(formula, letters), expected, (formula, letters))

    def test_a_single_fragment_is_a_pattern(self):
        for pattern in some_patterns(86, 40, "abcd", 9):
            for letters in sets_of(pattern):
                self.assertIs(formula_is_free([pattern], letters), plain_is_free([pattern], letters))

    def test_members_that_do_not_occur(self):
        for formula, value in [([], "a"), (["a"], "b"), (["a"], "ab"), (["ab", "ba"], "abc"), (["ab", "c"], "d"),
                               (["abcdefgh"], "z"), (("bc", "cb"), "abc")]:
            check_refused(self, InvalidVariables, value, formula_is_free, formula, value)
        for value in "cdefghijklmnopqrstuvwxyz":
            check_refused(self, InvalidVariables, value, formula_is_free, ["ab", "ba", "b"], value)


class Delete(unittest.TestCase):

    def test_examples(self):
        for formula, letters, expected in [
                ([], "", []), ([], "abc", []), (["ab", "ba", "a"], "a", ["b", "b"]), (["ab", "ba"], "", ["ab", "ba"]),
                (["ab", "ba"], "ab", []), (["ab", "ba"], "xyz", ["ab", "ba"]), (["ab", "ba"], "bz", ["a", "a"]),
                (["aa", "aa"], "b", ["aa", "aa"]), (["abcab"], "c", ["abab"]),
                (["ab"], "abcdefghijklmnopqrstuvwxyz", [])]:
            with self.subTest(formula=formula, letters=letters):
                self.assertEqual(formula_delete(formula, letters), expected)

    def test_against_a_plain_look(self):
        for formula in FORMULAS:
            for letters in ["", "a", "b", "ab", "bd", "xz", "aceg", "abcdefgh"]:
                found = formula_delete(formula, letters)
                self.assertIsInstance(found, list)
                self.assertEqual(found, list(plain_delete(formula, letters)))


class Chain(unittest.TestCase):

    def check_chain(self, formula, steps):
        """The steps are non-empty sets that are free one after the other and leave nothing."""
        self.assertIsInstance(steps, list)
        rest = tuple(formula)
        for letters in steps:
            self.assertIn(letters, plain_free_sets(rest), (formula, steps))
            rest = plain_delete(rest, letters)
        self.assertEqual(rest, ())

    def test_examples(self):
        self.assertEqual(formula_chain([]), [])
        self.assertEqual(formula_chain(()), [])
        self.assertIs(formula_is_avoidable([]), False)
        self.assertIsNone(formula_chain(["aa"]))
        self.assertEqual(formula_chain(["a"] * 20), ["a"])
        self.assertEqual(formula_chain(list("abcdefgh")), ["abcdefgh"])
        self.assertEqual(len(formula_chain(["ab", "ba"])), 2)
        for formula in [["aba", "bab"], ["a", "aa"], ["ab", "ba", "aba", "bab"], ["abab"], ["ab", "bca", "acb"]]:
            self.assertIs(formula_is_avoidable(formula), plain_steps(formula) is None)

    def test_against_a_search_by_levels(self):
        seen = {None: 0}
        for formula in FORMULAS:
            steps = formula_chain(formula)
            fewest = plain_steps(formula)
            self.assertEqual(steps if steps is None else len(steps), fewest, formula)
            self.assertIs(formula_is_avoidable(formula), fewest is None, formula)
            if steps is not None:
                self.check_chain(formula, steps)
            seen[fewest] = seen.get(fewest, 0) + 1
        for steps in [None, 0, 1, 2, 3]:
            self.assertGreater(seen[steps], 0, steps)

    def test_a_single_fragment_is_a_pattern(self):
        for pattern in short_patterns("abc", 5)[1:] + grown_patterns(87, 20, "abcde"):
            steps = chain(pattern)
            found = formula_chain([pattern])
            self.assertEqual(found if found is None else len(found), steps if steps is None else len(steps), pattern)

    def test_a_pattern_and_the_formula_of_its_fragments(self):
        for pattern in PATTERNS:
            self.assertIs(is_avoidable(pattern), formula_is_avoidable(fragments(pattern)), pattern)

    def test_a_formula_and_its_joined_pattern(self):
        seen = {True: 0, False: 0}
        for formula in FORMULAS:
            if len(set("".join(formula))) + len(formula) > 9 or len("".join(formula)) + len(formula) > 41:
                continue
            self.assertIs(formula_is_avoidable(formula), is_avoidable(joined(formula)), formula)
            seen[formula_is_avoidable(formula)] += 1
        self.assertGreater(min(seen.values()), 20)


if __name__ == "__main__":
    unittest.main()
