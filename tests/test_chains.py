"""Chains, reached and locked patterns, refutations: promises [2], [3] and [9]."""

import itertools
import random
import unittest

from mustoccur import chains
from mustoccur.chains import (
    chain, delete_free, is_avoidable, is_chain, is_locked, is_refutation, locked_patterns, reached)
from mustoccur.errors import InvalidPattern, InvalidVariables, NotFree
from tests.checks import check_conventions, check_interface, check_refused
from tests.plain import (
    grown_patterns, nested, plain_free_sets, plain_is_chain, plain_is_free, plain_reached, sets_of, short_patterns,
    some_patterns, without)
from tests.samples import MANY_KINDS, NOT_PATTERNS, NOT_VARIABLE_SETS

EIGHT = ["abcdefgh", "abcdefgh" * 5, "aabbccddeeffgghh", "abcdefghgfedcba", "acbdcedfegfhg", "abacbdcedfegfhg",
         "abacabadabacabaefgh", "hgabacabadabacabafe", "abcadefagbahac", "abacadaeafagah", nested("edcba") + "fghf"]
SHORT = short_patterns("abc", 5) + short_patterns("zy", 6)
PATTERNS = SHORT + some_patterns(21, 15) + grown_patterns(22, 30, "abcdef") + grown_patterns(23, 40, "stuv") + EIGHT


def changed(steps):
    """Lists of steps that differ a little from this one."""
    for at in range(len(steps)):
        yield steps[:at] + steps[at + 1:]
        yield steps[:at] + [""] + steps[at:]
        yield steps[:at] + [steps[at], steps[at]] + steps[at + 1:]
        yield steps[:at] + [steps[at] + "z"] + steps[at + 1:]
        yield steps[:at] + [steps[at][1:]] + steps[at + 1:]
        yield steps[:at] + [steps[at][::-1] * 2] + steps[at + 1:]
        yield steps[at:] + steps[:at]
    yield steps[::-1]
    yield steps + ["a"]
    yield steps + [""]
    yield ["".join(sorted("".join(steps)))]


class Interface(unittest.TestCase):

    ONE = [chain, is_avoidable, is_locked, reached, locked_patterns]

    def test_names_and_parameters(self):
        check_interface(self, chains, {
            "chain": ["pattern"], "is_chain": ["pattern", "value"], "is_avoidable": ["pattern"],
            "is_locked": ["pattern"], "reached": ["pattern"], "is_refutation": ["pattern", "value"],
            "locked_patterns": ["pattern"], "delete_free": ["pattern", "letters"]})

    def test_conventions(self):
        for pattern in ["", "a", "aa", "aba", "abcab", "abacaba", "abcdefgh"]:
            for function in self.ONE:
                check_conventions(self, function, pattern)
            check_conventions(self, is_chain, pattern, ["a", "b"])
            check_conventions(self, is_refutation, pattern, ["aa", "aba"])
            check_conventions(self, delete_free, pattern, "")
        check_conventions(self, delete_free, "aba", "b")

    def test_invalid_patterns(self):
        for value in NOT_PATTERNS:
            for function in self.ONE:
                check_refused(self, InvalidPattern, value, function, value)
            for other in [None, [], [value], "ba"]:
                check_refused(self, InvalidPattern, value, is_chain, value, other)
                check_refused(self, InvalidPattern, value, is_refutation, value, other)
                check_refused(self, InvalidPattern, value, delete_free, value, other)


class Chain(unittest.TestCase):

    def test_examples(self):
        self.assertEqual(chain("aba"), ["a", "b"])
        self.assertEqual(chain(""), [])
        self.assertEqual(chain("z"), ["z"])
        for pattern in ["aa", "abab", "abba", "aab", "abcabc", "abcacb", "abcbabc", "aabbccddeeffgghh"]:
            with self.subTest(pattern=pattern):
                self.assertIsNone(chain(pattern))
                self.assertIs(is_avoidable(pattern), True)

    def test_the_fewest_steps_against_a_plain_search(self):
        for pattern in PATTERNS:
            expected = plain_reached(pattern).get("")
            found = chain(pattern)
            self.assertIs(is_avoidable(pattern), expected is None, pattern)
            if expected is None:
                self.assertIsNone(found, pattern)
            else:
                self.assertIsInstance(found, list)
                self.assertEqual(len(found), expected, pattern)
                self.assertTrue(plain_is_chain(pattern, found), pattern)
                self.assertIs(is_chain(pattern, found), True)

    def test_one_step_exactly_if_all_together_are_free(self):
        for pattern in PATTERNS:
            names = "".join(sorted(set(pattern)))
            together = names != "" and plain_is_free(pattern, names)
            self.assertEqual(chain(pattern) == [names], together, pattern)
            found = chain(pattern)
            self.assertEqual(found is not None and len(found) == 1, together, pattern)

    def test_long_patterns_are_avoidable(self):
        for names in ["a", "ab"]:
            for row in itertools.product(names, repeat=2 ** len(names)):
                self.assertIs(is_avoidable("".join(row)), True, row)
        chance = random.Random(24)
        for count in [1, 2, 3, 4, 5]:
            for _ in range(40):
                names = chance.sample("abcdefghz", count)
                pattern = "".join(chance.choice(names) for _ in range(chance.randint(2 ** count, 40)))
                self.assertIs(is_avoidable(pattern), True, pattern)
        for count in [2, 3, 4, 5]:
            word = nested("abcde"[:count])
            for at in range(len(word) + 1):
                for name in "abcde"[:count]:
                    self.assertIs(is_avoidable(word[:at] + name + word[at:]), True)

    def test_nested_words(self):
        for names in ["a", "ab", "abc", "abcd", "abcde", "zyxwv", "cab"]:
            word = nested(names)
            with self.subTest(word=word):
                self.assertEqual(chain(word), list(names))
                self.assertIs(is_avoidable(word), False)

    def test_eight_variables(self):
        self.assertEqual(len(chain("abcdefgh")), 4)
        self.assertEqual(len(chain("abacadaeafagah")), 4)
        for pattern in EIGHT[:1] + EIGHT[6:8]:
            self.assertIs(is_avoidable(pattern), False, pattern)
            self.assertTrue(plain_is_chain(pattern, chain(pattern)), pattern)
        self.assertIs(is_avoidable("abcdefgh" * 5), True)

    def test_turned_around_and_renamed(self):
        table = str.maketrans("abcdefgh", "zbyaxcwd")
        for pattern in some_patterns(25, 10) + grown_patterns(26, 30, "abcde"):
            found = chain(pattern)
            for other in [pattern[::-1], pattern.translate(table)]:
                again = chain(other)
                self.assertEqual(None if found is None else len(found), None if again is None else len(again))
            if found is not None:
                self.assertIs(is_chain(pattern[::-1], found), True)


class IsChain(unittest.TestCase):

    def test_examples(self):
        for pattern, value, expected in [
                ("aba", ["a", "b"], True), ("aba", ("a", "b"), True), ("aba", ["b", "a"], False), ("aba", ["a"], False),
                ("aba", ["ab"], False), ("aba", [], False), ("", [], True), ("", (), True), ("", [""], False),
                ("", ["a"], False), ("a", ["a"], True), ("a", ["a", "a"], False), ("a", ["a", ""], False),
                ("a", ["", "a"], False), ("a", "a", False), ("aba", "ab", False), ("aba", {"a": 1, "b": 2}, False),
                ("abc", ["ac", "b"], True), ("abc", ["ca", "b"], False), ("abc", ["b", "a", "c"], True),
                ("abc", ["b", "ac"], False), ("abc", ["a", "bc"], False), ("abc", ["acz", "b"], False),
                ("aba", [["a"], ["b"]], False), ("aba", ["a", None], False), ("aba", ["a", "b", None], False),
                ("aba", [None, "a", "b"], False), ("aba", ["a", ("b",)], False), ("aa", ["a"], False)]:
            with self.subTest(pattern=pattern, value=value):
                self.assertIs(is_chain(pattern, value), expected)

    def test_any_value(self):
        for pattern in ["", "a", "ab", "aba", "aa"]:
            for value in MANY_KINDS:
                with self.subTest(pattern=pattern, value=value):
                    listed = isinstance(value, (list, tuple)) and all(isinstance(part, str) for part in value)
                    self.assertIs(is_chain(pattern, value), listed and plain_is_chain(pattern, value))

    def test_every_list_of_sets_of_short_patterns(self):
        for pattern in short_patterns("abc", 4):
            options = sets_of("abc")
            for size in range(4):
                for row in itertools.product(options, repeat=size):
                    self.assertIs(is_chain(pattern, row), plain_is_chain(pattern, row), (pattern, row))

    def test_changed_chains(self):
        for pattern in ["abacaba", "abcdefgh", "abacadaeafagah"] + grown_patterns(27, 20, "abcde"):
            found = chain(pattern)
            if found is not None:
                for steps in changed(found):
                    expected = plain_is_chain(pattern, steps)
                    self.assertIs(is_chain(pattern, steps), expected, (pattern, steps))
                    self.assertIs(is_chain(pattern, tuple(steps)), expected, (pattern, steps))


class Reached(unittest.TestCase):

    def test_examples(self):
        for pattern, expected, locked in [
                ("", [""], []), ("a", ["", "a"], []), ("aa", ["aa"], ["aa"]),
                ("aba", ["", "aa", "aba", "b"], ["aa"]), ("abba", ["abba"], ["abba"]),
                ("aab", ["aa", "aab"], ["aa"]), ("zyz", ["", "y", "zyz", "zz"], ["zz"])]:
            with self.subTest(pattern=pattern):
                self.assertEqual(reached(pattern), expected)
                self.assertEqual(locked_patterns(pattern), locked)

    def test_against_a_plain_closing(self):
        for pattern in PATTERNS:
            expected = sorted(plain_reached(pattern))
            self.assertEqual(reached(pattern), expected, pattern)
            locked = [rest for rest in expected if rest != "" and plain_free_sets(rest) == []]
            self.assertEqual(locked_patterns(pattern), locked, pattern)
            self.assertIs(is_locked(pattern), pattern in locked, pattern)

    def test_is_locked(self):
        for pattern in ["aa", "zz", "aabb", "aaa", "abcdefgh" * 2 + "acegbdfh" + "aa"]:
            self.assertIs(is_locked(pattern), pattern != "" and plain_free_sets(pattern) == [], pattern)
        for pattern in ["", "a", "aba", "aab", "abcdefgh"]:
            self.assertIs(is_locked(pattern), False)

    def test_avoidable_exactly_without_the_empty_one(self):
        for pattern in PATTERNS:
            self.assertEqual("" in reached(pattern), not is_avoidable(pattern), pattern)

    def test_eight_variables(self):
        self.assertEqual(len(reached("abcdefgh")), 256)
        self.assertEqual(len(reached("abcdefgh" * 5)), 255)
        self.assertEqual(reached("aabbccddeeffgghh"), ["aabbccddeeffgghh"])


class IsRefutation(unittest.TestCase):

    def test_examples(self):
        for pattern, value, expected in [
                ("aa", ["aa"], True), ("aa", ("aa",), True), ("aa", ["aa", "aa"], True), ("aa", [], False),
                ("aa", ["bb"], False), ("aa", ["aa", "bb"], True), ("aa", ["aa", ""], False), ("aa", "aa", False),
                ("aa", {"aa": 1}, False), ("aa", None, False), ("aa", ["aa", None], False), ("aa", ["aa", ["aa"]], False),
                ("aa", ["aa", "A"], False), ("aa", ["aa", "a" * 41], False), ("aa", ["aa", "aba"], False),
                ("aab", ["aab"], False), ("aab", ["aab", "aa"], True), ("aab", ["aa", "aab"], True),
                ("aab", ["aa"], False), ("", [""], False), ("", [], False), ("", ["aa"], False), ("a", ["a"], False),
                ("a", ["a", ""], False), ("aba", ["aa", "aba", "b"], False), ("aba", ["", "aa", "aba", "b"], False)]:
            with self.subTest(pattern=pattern, value=value):
                self.assertIs(is_refutation(pattern, value), expected)

    def test_any_value(self):
        for pattern in ["", "a", "aa", "aba"]:
            for value in MANY_KINDS:
                with self.subTest(pattern=pattern, value=value):
                    self.assertIs(is_refutation(pattern, value), False)
        for value in MANY_KINDS:
            good = isinstance(value, str) and value in ("aa",)
            self.assertIs(is_refutation("aa", ["aa", value]), good, value)

    def test_what_is_reached_is_one_exactly_if_avoidable(self):
        for pattern in PATTERNS:
            found = sorted(plain_reached(pattern))
            self.assertIs(is_refutation(pattern, found), "" not in found, pattern)
            self.assertIs(is_refutation(pattern, tuple(found)), "" not in found, pattern)

    def test_one_pattern_less_or_more(self):
        for pattern in SHORT + some_patterns(28, 10, "abcde", 12) + ["abcbabc", "aabbccdd"]:
            found = sorted(plain_reached(pattern))
            if "" in found:
                continue
            for at in range(len(found)):
                self.assertIs(is_refutation(pattern, found[:at] + found[at + 1:]), False, (pattern, at))
            self.assertIs(is_refutation(pattern, found + found[::-1]), True, pattern)
            self.assertIs(is_refutation(pattern, found + ["zz"]), True, pattern)
            self.assertIs(is_refutation(pattern, ["zzy"] + found), "zz" in found, pattern)
            self.assertIs(is_refutation(pattern, found + ["z"]), False, pattern)
            self.assertIs(is_refutation(pattern, found + [""]), False, pattern)

    def test_eight_variables(self):
        found = reached("abcdefgh" * 5)
        self.assertIs(is_refutation("abcdefgh" * 5, found), True)
        for at in range(0, 255, 16):
            self.assertIs(is_refutation("abcdefgh" * 5, found[:at] + found[at + 1:]), False)


class DeleteFree(unittest.TestCase):

    def test_every_set(self):
        for pattern in SHORT + grown_patterns(29, 20, "abcd") + ["abcdefgh"]:
            for letters in sets_of(pattern):
                if plain_is_free(pattern, letters):
                    self.assertEqual(delete_free(pattern, letters), without(pattern, letters))
                else:
                    check_refused(self, NotFree, letters, delete_free, pattern, letters)

    def test_not_free_has_the_very_set(self):
        letters = "".join(["a", "b"])
        with self.assertRaises(NotFree) as caught:
            delete_free("aba", letters)
        self.assertIs(caught.exception.variables, letters)

    def test_invalid_variables_first(self):
        for value in NOT_VARIABLE_SETS:
            for pattern in ["", "aa", "abab"]:
                check_refused(self, InvalidVariables, value, delete_free, pattern, value)
        for pattern, value in [("", "a"), ("aa", "ab"), ("aba", "abc"), ("aa", "b"), ("abab", "abz")]:
            check_refused(self, InvalidVariables, value, delete_free, pattern, value)


if __name__ == "__main__":
    unittest.main()
