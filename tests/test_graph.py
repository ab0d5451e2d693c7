"""The adjacency graph and free sets: promises [2], [3], [7] and [8]."""

import unittest

from mustoccur import graph
from mustoccur.errors import InvalidPattern, InvalidVariables
from mustoccur.graph import components, free_sets, greatest_free_sets, is_free, links
from tests.checks import check_conventions, check_interface, check_refused
from tests.plain import (
    grown_patterns, nested, plain_components, plain_free_sets, plain_greatest, plain_is_free, sets_of, short_patterns,
    some_patterns)
from tests.samples import NOT_PATTERNS, NOT_VARIABLE_SETS

EIGHT = ["abcdefgh" * 5, "hgfedcba" * 5, "aabbccddeeffgghh", "abcdefghgfedcba", "abcdefgh", "acbdcedfegfhg",
         nested("hgfed") + "abc", "stuvwxyz" * 5, "zaybxcwd" + "a" * 32]
PATTERNS = short_patterns("abc", 5) + short_patterns("xy", 7) + some_patterns(1, 60) + grown_patterns(2, 60) + EIGHT


class Interface(unittest.TestCase):

    def test_names_and_parameters(self):
        check_interface(self, graph, {
            "links": ["pattern"], "components": ["pattern"], "is_free": ["pattern", "letters"],
            "free_sets": ["pattern"], "greatest_free_sets": ["pattern"]})

    def test_conventions(self):
        for pattern in ["", "a", "aba", "abcab", "abcdefgh" * 5]:
            for function in [links, components, free_sets, greatest_free_sets]:
                check_conventions(self, function, pattern)
            check_conventions(self, is_free, pattern, "")
        check_conventions(self, is_free, "aba", "ab")

    def test_invalid_patterns(self):
        for value in NOT_PATTERNS:
            for function in [links, components, free_sets, greatest_free_sets]:
                check_refused(self, InvalidPattern, value, function, value)
            for letters in ["", "a", "ba", None]:
                check_refused(self, InvalidPattern, value, is_free, value, letters)


class Links(unittest.TestCase):

    def test_examples(self):
        for pattern, expected in [
                ("", []), ("a", []), ("z", []), ("aa", [("a", "a")]), ("ab", [("a", "b")]), ("ba", [("b", "a")]),
                ("aba", [("a", "b"), ("b", "a")]), ("ababab", [("a", "b"), ("b", "a")]),
                ("cabca", [("a", "b"), ("b", "c"), ("c", "a")]), ("zzzzz", [("z", "z")]),
                ("bbaab", [("a", "a"), ("a", "b"), ("b", "a"), ("b", "b")])]:
            with self.subTest(pattern=pattern):
                self.assertEqual(links(pattern), expected)

    def test_every_pair_of_neighbours_once(self):
        for pattern in PATTERNS:
            expected = sorted({(pattern[at], pattern[at + 1]) for at in range(len(pattern) - 1)})
            self.assertEqual(links(pattern), expected, pattern)
            self.assertIsInstance(links(pattern), list)


class Components(unittest.TestCase):

    def test_examples(self):
        for pattern, expected in [
                ("", []), ("a", [("", "a"), ("a", "")]), ("z", [("", "z"), ("z", "")]),
                ("aa", [("a", "a")]), ("aba", [("a", "b"), ("b", "a")]),
                ("ab", [("", "a"), ("a", "b"), ("b", "")]), ("ba", [("", "b"), ("a", ""), ("b", "a")]),
                ("abab", [("a", "b"), ("b", "a")]), ("aab", [("a", "ab"), ("b", "")]),
                ("abcb", [("", "a"), ("ac", "b"), ("b", "c")]),
                ("abcdefgh", [("", "a"), ("a", "b"), ("b", "c"), ("c", "d"), ("d", "e"), ("e", "f"), ("f", "g"),
                              ("g", "h"), ("h", "")])]:
            with self.subTest(pattern=pattern):
                self.assertEqual(components(pattern), expected)

    def test_against_a_plain_search(self):
        for pattern in PATTERNS:
            expected = []
            for part in plain_components(pattern):
                sides = ["".join(sorted(name for side, name in part if side == which)) for which in ("left", "right")]
                expected.append(tuple(sides))
            self.assertEqual(components(pattern), sorted(expected), pattern)

    def test_each_node_in_exactly_one(self):
        for pattern in PATTERNS:
            found = components(pattern)
            for side in (0, 1):
                self.assertEqual(sorted("".join(part[side] for part in found)), sorted(set(pattern)), pattern)
            self.assertNotIn(("", ""), found)

    def test_kinds(self):
        for pattern in PATTERNS:
            found = components(pattern)
            self.assertIsInstance(found, list)
            self.assertEqual(found, sorted(found))
            for part in found:
                self.assertIsInstance(part, tuple)
                self.assertEqual(list(part), ["".join(sorted(set(side))) for side in part])


class IsFree(unittest.TestCase):

    def test_examples(self):
        for pattern, letters, expected in [
                ("", "", True), ("a", "", True), ("a", "a", True), ("aa", "", True), ("aa", "a", False),
                ("aba", "a", True), ("aba", "b", True), ("aba", "ab", False), ("abc", "ac", True), ("abc", "b", True),
                ("abc", "ab", False), ("abc", "abc", False), ("abcba", "ac", True), ("abcba", "b", True),
                ("aab", "b", True), ("aab", "a", False)]:
            with self.subTest(pattern=pattern, letters=letters):
                self.assertIs(is_free(pattern, letters), expected)

    def test_against_a_plain_look_at_every_component(self):
        for pattern in short_patterns("abc", 5) + some_patterns(3, 40, "pqrst") + grown_patterns(4, 20, "pqrst"):
            for letters in sets_of(pattern):
                self.assertIs(is_free(pattern, letters), plain_is_free(pattern, letters), (pattern, letters))

    def test_single_members_and_all_variables(self):
        for pattern in some_patterns(5, 100) + grown_patterns(6, 100) + EIGHT:
            names = sorted(set(pattern))
            for letters in ["", *names, "".join(names)]:
                self.assertIs(is_free(pattern, letters), plain_is_free(pattern, letters), (pattern, letters))
            self.assertIs(is_free(pattern, ""), True)
            self.assertIs(is_free(pattern, "".join(names)), len(pattern) == 1)

    def test_not_a_variable_set(self):
        for value in NOT_VARIABLE_SETS:
            for pattern in ["", "abab", "abcdefgh"]:
                check_refused(self, InvalidVariables, value, is_free, pattern, value)

    def test_members_that_do_not_occur(self):
        for pattern, value in [("", "a"), ("a", "b"), ("a", "ab"), ("aba", "abc"), ("aba", "az"), ("bcb", "ab"),
                               ("aa", "abcdefghijklmnopqrstuvwxyz"), ("aa", "ab"), ("stu", "a")]:
            check_refused(self, InvalidVariables, value, is_free, pattern, value)


class FreeSets(unittest.TestCase):

    def test_examples(self):
        for pattern, expected, greatest in [
                ("", [], []), ("a", ["a"], ["a"]), ("aa", [], []), ("aba", ["a", "b"], ["a", "b"]),
                ("abc", ["a", "ac", "b", "c"], ["ac", "b"]), ("abcdab", ["a", "ac", "b", "bd", "c", "d"], ["ac", "bd"]),
                ("zay", ["a", "y", "yz", "z"], ["a", "yz"]), ("aab", ["b"], ["b"])]:
            with self.subTest(pattern=pattern):
                self.assertEqual(free_sets(pattern), expected)
                self.assertEqual(greatest_free_sets(pattern), greatest)

    def test_against_a_plain_look_at_every_set(self):
        for pattern in PATTERNS:
            self.assertEqual(free_sets(pattern), plain_free_sets(pattern), pattern)
            self.assertEqual(greatest_free_sets(pattern), plain_greatest(pattern), pattern)

    def test_eight_variables(self):
        # The free sets are those without two neighbours: the tenth number of Fibonacci, without the empty set.
        self.assertEqual(len(free_sets("abcdefgh")), 54)
        for pattern in EIGHT:
            self.assertEqual(len(set(pattern)), 8)
            self.assertEqual(free_sets(pattern), plain_free_sets(pattern))
            self.assertEqual(greatest_free_sets(pattern), plain_greatest(pattern))

    def test_each_subset_of_a_free_set_is_free(self):
        for pattern in some_patterns(7, 40) + grown_patterns(8, 40) + EIGHT:
            found = set(free_sets(pattern))
            for letters in found:
                for name in letters:
                    rest = letters.replace(name, "")
                    self.assertTrue(rest == "" or rest in found, (pattern, letters))
                    self.assertIs(is_free(pattern, rest), True)

    def test_each_free_set_is_within_a_greatest_one(self):
        for pattern in some_patterns(9, 40) + grown_patterns(10, 40) + EIGHT:
            greatest = greatest_free_sets(pattern)
            for letters in free_sets(pattern):
                self.assertTrue(any(set(letters) <= set(others) for others in greatest), (pattern, letters))

    def test_turned_around(self):
        for pattern in some_patterns(11, 40) + grown_patterns(12, 40) + EIGHT:
            self.assertEqual(free_sets(pattern[::-1]), free_sets(pattern), pattern)
            self.assertEqual(greatest_free_sets(pattern[::-1]), greatest_free_sets(pattern), pattern)

    def test_renamed(self):
        for names in ["zyxwvuts", "badcfehg", "hijklmno"]:
            table = str.maketrans("abcdefgh", names)
            for pattern in some_patterns(13, 20) + grown_patterns(14, 20):
                for function in [free_sets, greatest_free_sets]:
                    expected = sorted("".join(sorted(letters.translate(table))) for letters in function(pattern))
                    self.assertEqual(function(pattern.translate(table)), expected, (pattern, names))


if __name__ == "__main__":
    unittest.main()
