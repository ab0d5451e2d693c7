"""Patterns in patterns, and unavoidable patterns in long texts: promises [2], [3], [5], [6], [9], [10], [13]."""

import copy
import itertools
import random
import unittest

from mustoccur import order
from mustoccur.chains import chain
from mustoccur.errors import InvalidCount, InvalidPattern, InvalidPlace, InvalidText
from mustoccur.matching import is_place
from mustoccur.order import are_alike, compose, find_in_pattern, precedes, unavoidable_patterns
from mustoccur.patterns import normal, substitute
from mustoccur.ranks import find_unavoidable, length_bound
from tests.checks import check_conventions, check_interface, check_refused
from tests.plain import grown_patterns, nested, plain_reached, short_patterns, some_patterns
from tests.samples import MANY_KINDS, NOT_PATTERNS, NOT_TEXTS, names_of, overlap_free, slow_find, slow_starts

FORTY = ["a" * 40, "ab" * 20, "abcdefgh" * 5, nested("abcde") + "abacabadf", "z" * 39 + "y", "stuvwxyz" * 5]


def all_places(pattern, other):
    """All places of the pattern in a text or a pattern, in order."""
    starts = range(len(other) + 1)
    return [(start, values) for start in starts for values, end in slow_starts(pattern, other[start:])]


def normal_forms(count, longest):
    """All normal forms with exactly count variables, by length, then as strings."""
    names = "abcdefgh"[:count]
    return [word for word in short_patterns(names, longest) if "".join(names_of(word)) == names]


class Interface(unittest.TestCase):

    def test_names_and_parameters(self):
        check_interface(self, order, {
            "find_in_pattern": ["pattern", "other"], "precedes": ["pattern", "other"],
            "are_alike": ["pattern", "other"], "compose": ["pattern", "other", "inner", "text", "outer"],
            "unavoidable_patterns": ["count"]})

    def test_conventions(self):
        for pattern, other in [("", ""), ("", "ab"), ("aba", "abcab"), ("abcab", "aba"), ("aa", "ab")]:
            for function in [find_in_pattern, precedes, are_alike]:
                check_conventions(self, function, pattern, other)
        check_conventions(self, compose, "aa", "bcbc", (0, {"a": "bc"}), (5, 1, 2, 1, 2), (1, {"c": (2,), "b": (1,)}))
        check_conventions(self, compose, "", "a", (1, {}), (5,), (0, {"a": (5,)}))
        for count in range(4):
            check_conventions(self, unavoidable_patterns, count)

    def test_not_patterns(self):
        for value in NOT_PATTERNS + [kind for kind in MANY_KINDS if not isinstance(kind, str)]:
            for function in [find_in_pattern, precedes, are_alike]:
                for other in ["", "aba", None, "A"]:
                    check_refused(self, InvalidPattern, value, function, value, other)
                for pattern in ["", "aba", "a" * 40]:
                    check_refused(self, InvalidPattern, value, function, pattern, value)


class FindInPattern(unittest.TestCase):

    def test_examples(self):
        for pattern, other, expected in [
                ("", "", (0, {})), ("", "abc", (0, {})), ("a", "", None), ("a", "z", (0, {"a": "z"})),
                ("aba", "abcab", (0, {"a": "a", "b": "bc"})), ("aa", "abab", (0, {"a": "ab"})), ("aa", "abcba", None),
                ("aa", "abb", (1, {"a": "b"})), ("ba", "ab", (0, {"b": "a", "a": "b"})), ("ab", "a", None),
                ("abc", "xyxy", (0, {"a": "x", "b": "y", "c": "x"})), ("aab", "xyxy", None),
                ("aab", "xyxyx", (0, {"a": "xy", "b": "x"}))]:
            with self.subTest(pattern=pattern, other=other):
                self.assertEqual(find_in_pattern(pattern, other), expected)
                self.assertIs(precedes(pattern, other), expected is not None)

    def check_found(self, pattern, other):
        found = find_in_pattern(pattern, other)
        self.assertEqual(found, slow_find(pattern, other), (pattern, other))
        self.assertIs(precedes(pattern, other), found is not None)
        if found is not None:
            self.assertIsInstance(found, tuple)
            self.assertEqual(list(found[1]), names_of(pattern))
            self.assertTrue(all(isinstance(word, str) for word in found[1].values()))

    def test_against_trying_all_lengths(self):
        for pattern in short_patterns("ab", 4) + ["cba", "bcbc", "abcba", "zyz"]:
            for other in short_patterns("ab", 6) + short_patterns("xyz", 4):
                self.check_found(pattern, other)
        for pattern in some_patterns(71, 25, "dcba", 6):
            for other in some_patterns(72, 25, "stuvwxyz", 13) + grown_patterns(73, 10, "wxyz"):
                self.check_found(pattern, other[:15])

    def test_forty_characters(self):
        for pattern in FORTY:
            place = find_in_pattern(pattern, pattern)
            self.assertEqual(place, (0, {name: name for name in names_of(pattern)}))
            self.assertEqual(find_in_pattern("", pattern), (0, {}))
            self.assertEqual(find_in_pattern("p", pattern), (0, {"p": pattern[0]}))
            self.assertIs(precedes(pattern, pattern[1:]), False)
            self.assertIs(precedes(pattern[1:], pattern), True)
        self.assertEqual(find_in_pattern("pp", "ab" * 20), (0, {"p": "ab"}))
        self.assertEqual(find_in_pattern("ppp", "ab" * 20), (0, {"p": "ab"}))
        self.assertEqual(find_in_pattern("pqp", "z" * 39 + "y"), (0, {"p": "z", "q": "z"}))
        self.assertEqual(find_in_pattern("pqpq", "abcdefgh" * 5)[1], {"p": "a", "q": "bcdefgh"})

    def test_precedes_is_an_order(self):
        words = short_patterns("ab", 4) + ["abc", "abca", "abcab", "abacaba"]
        for first, second, third in itertools.product(words, repeat=3):
            if precedes(first, second) and precedes(second, third):
                self.assertTrue(precedes(first, third), (first, second, third))


class Alike(unittest.TestCase):

    def test_examples(self):
        for pattern, other, expected in [("", "", True), ("", "a", False), ("a", "z", True), ("ab", "ba", True),
                                         ("ab", "aa", False), ("aa", "ab", False), ("abca", "xyzx", True),
                                         ("aba", "abb", False), ("a", "aa", False), ("abcdefgh", "stuvwxyz", True)]:
            with self.subTest(pattern=pattern, other=other):
                self.assertIs(are_alike(pattern, other), expected)

    def test_if_and_only_if_each_occurs_in_the_other(self):
        words = short_patterns("abc", 4) + ["zyzy", "zyxz"]
        for pattern, other in itertools.product(words, repeat=2):
            expected = slow_find(pattern, other) is not None and slow_find(other, pattern) is not None
            self.assertIs(are_alike(pattern, other), expected, (pattern, other))
            self.assertIs(are_alike(pattern, other), normal(pattern) == normal(other))

    def test_forty_characters(self):
        for pattern, other in itertools.product(FORTY, repeat=2):
            self.assertIs(are_alike(pattern, other), normal(pattern) == normal(other))
            self.assertIs(are_alike(pattern, other), precedes(pattern, other) and precedes(other, pattern))


class Compose(unittest.TestCase):

    INNER = (1, {"a": "cb", "d": "b"})
    OUTER = (2, {"b": (1, 2), "c": (3,)})
    TEXT = (9, 9, 1, 2, 3, 1, 2, 1, 2, 3, 1, 2, 9)

    def good(self):
        """Arguments that are accepted: ada is a block of bcbbcb."""
        return ["ada", "bcbbcb", self.INNER, self.TEXT, self.OUTER]

    def test_examples(self):
        self.assertEqual(
            compose("aa", "bcbc", (0, {"a": "bc"}), (5, 1, 2, 1, 2), (1, {"b": (1,), "c": (2,)})), (1, {"a": (1, 2)}))
        self.assertEqual(compose(*self.good()), (4, {"a": (3, 1, 2), "d": (1, 2)}))

    def test_order_of_keys(self):
        given = self.good()
        given[2] = (1, {"d": "b", "a": "cb"})
        given[4] = (2, {"c": (3,), "b": (1, 2)})
        start, values = compose(*given)
        self.assertEqual(list(values), ["a", "d"])
        self.assertEqual((start, values), compose(*self.good()))
        self.assertEqual(list(compose("da", "xy", (0, {"a": "y", "d": "x"}), (1, 2), (0, {"y": (2,), "x": (1,)}))[1]),
                         ["d", "a"])

    def test_every_pair_of_places(self):
        texts = [(1, 2, 1, 2, 1), (5, 5, 5, 5), (1, 2, 1, 3, 1, 2)]
        seen = 0
        for pattern, other, text in itertools.product(["a", "aa", "ba", "aba", "cabc"], short_patterns("xy", 4), texts):
            for inner, outer in itertools.product(all_places(pattern, other), all_places(other, text)):
                found = compose(pattern, other, inner, text, outer)
                self.assertIsInstance(found, tuple)
                start, values = found
                expected = {name: substitute(word, {x: outer[1][x] for x in word}) for name, word in inner[1].items()}
                self.assertEqual(values, expected)
                self.assertEqual(start, outer[0] + sum(len(outer[1][x]) for x in other[:inner[0]]))
                self.assertTrue(is_place(pattern, text, found))
                seen += 1
        self.assertGreater(seen, 1000)

    def test_empty_pattern(self):
        for start in range(7):
            self.assertEqual(compose("", "bcbbcb", (start, {}), self.TEXT, self.OUTER), (0, {}))
        for start in range(4):
            self.assertEqual(compose("", "", (0, {}), (1, 2, 3), (start, {})), (0, {}))
        for inner in [(7, {}), (-1, {}), (True, {}), (0, {"a": "b"}), (0,), [0, {}]]:
            check_refused(self, InvalidPlace, inner, compose, "", "bcbbcb", inner, self.TEXT, self.OUTER)
        for outer in [(4, {}), (-1, {}), (False, {}), (0, {"a": (1,)})]:
            check_refused(self, InvalidPlace, outer, compose, "", "", (0, {}), (1, 2, 3), outer)

    def test_long_values(self):
        text = tuple(range(4096))
        place = compose("ab", "abc", (0, {"a": "a", "b": "bc"}), text,
                        (0, {"a": text[:4000], "b": text[4000:4090], "c": text[4090:]}))
        self.assertEqual(place, (0, {"a": text[:4000], "b": text[4000:]}))
        self.assertEqual(compose("a", "abcdefgh" * 5, (39, {"a": "h"}), (7,) * 40, (0, {x: (7,) for x in "abcdefgh"})),
                         (39, {"a": (7,)}))

    def wrong_inner(self):
        values = self.INNER[1]
        return MANY_KINDS + [
            list(self.INNER), self.INNER + (0,), (values, 1), (1,), (True, values), (None, values), ("1", values),
            (0, values), (2, values), (-5, values), (7, values), (10 ** 29, values), (1, {**values, "b": "b"}),
            (1, {"a": "cb"}), (1, {"a": "cb", "d": ""}), (1, {"a": "c", "d": "b"}), (1, {"a": ("c", "b"), "d": "b"}),
            (1, {"a": "cb", "d": None}), (1, {"a": "CB", "d": "b"}), (1, {"a": "cb", "d": "bb"}), (1, []),
            (1, {"a": (2, 1), "d": (1,)}), (1, {"a": "cb", "d": "b" * 41}), self.OUTER]

    def wrong_outer(self):
        values = self.OUTER[1]
        return MANY_KINDS + [
            list(self.OUTER), self.OUTER + (0,), (2,), (True, values), (0, values), (-11, values), (14, values),
            (2, {"b": (1, 2)}), (2, {**values, "d": (1,)}), (2, {"b": (1, 2), "c": ()}), (2, {"b": [1, 2], "c": (3,)}),
            (2, {"b": (1,), "c": (2, 3)}), (2, {"b": "b", "c": "c"}), self.INNER]

    def test_wrong_places(self):
        for value in self.wrong_inner():
            for outer in [self.OUTER, None, (0, {})]:
                check_refused(self, InvalidPlace, value, compose, "ada", "bcbbcb", value, self.TEXT, outer)
        for value in self.wrong_outer():
            check_refused(self, InvalidPlace, value, compose, "ada", "bcbbcb", self.INNER, self.TEXT, value)

    def test_from_left_to_right(self):
        for value in NOT_PATTERNS + [None]:
            check_refused(self, InvalidPattern, value, compose, value, "bcbbcb", self.INNER, self.TEXT, self.OUTER)
            check_refused(self, InvalidPattern, value, compose, value, "B", None, None, None)
            check_refused(self, InvalidPattern, value, compose, "ada", value, self.INNER, self.TEXT, self.OUTER)
            check_refused(self, InvalidPattern, value, compose, "ada", value, None, None, None)
        for value in NOT_TEXTS:
            check_refused(self, InvalidText, value, compose, "ada", "bcbbcb", self.INNER, value, self.OUTER)
            check_refused(self, InvalidText, value, compose, "ada", "bcbbcb", None, value, None)

    def test_nothing_is_modified(self):
        given = self.good()
        before = copy.deepcopy(given)
        compose(*given)[1]["a"] = None
        self.assertEqual(given, before)
        given[4] = (2, {"b": (1,), "c": (3,)})
        before = copy.deepcopy(given)
        self.assertRaises(InvalidPlace, compose, *given)
        self.assertEqual(given, before)


class UnavoidablePatterns(unittest.TestCase):

    def test_examples(self):
        self.assertEqual(unavoidable_patterns(0), [""])
        self.assertEqual(unavoidable_patterns(1), ["a"])
        self.assertEqual(unavoidable_patterns(2), ["ab", "aba"])
        self.assertEqual(unavoidable_patterns(3), [
            "abc", "abac", "abca", "abcb", "abaca", "abacb", "abcab", "abcac", "abcba", "abacab", "abacba", "abcaba",
            "abcbab", "abacaba"])

    def test_against_all_patterns(self):
        # A pattern of n variables and 2 ** n or more characters is avoidable, so those of eight are enough for three.
        for count, longest in enumerate([3, 6, 10, 8]):
            expected = [word for word in normal_forms(count, longest) if "" in plain_reached(word)]
            self.assertEqual(unavoidable_patterns(count), expected)

    def test_other_counts(self):
        for value in MANY_KINDS + [4, 5, -1, 10 ** 29]:
            if value in range(4) and not isinstance(value, bool):
                continue
            check_refused(self, InvalidCount, value, unavoidable_patterns, value)


class LongTexts(unittest.TestCase):
    """Each unavoidable pattern has a place in each text as long as the length bound for its number of variables."""

    def check_texts(self, count, texts):
        for pattern in unavoidable_patterns(count):
            self.assertLessEqual(len(chain(pattern)), count)
            for text in texts:
                place = find_unavoidable(pattern, text)
                self.assertTrue(is_place(pattern, text, place), (pattern, text))
                self.assertEqual(list(place[1]), names_of(pattern))

    def test_one_and_two_variables(self):
        self.check_texts(0, [(), (5,)])
        for letters in range(1, 5):
            self.check_texts(1, [(letter,) for letter in range(letters)])
            self.assertEqual(length_bound(1, letters), 1)
        for letters in range(1, 4):
            self.check_texts(2, list(itertools.product((7, 0, 999999)[:letters], repeat=length_bound(2, letters))))
        chance = random.Random(74)
        self.check_texts(2, [tuple(chance.randrange(4) for _ in range(length_bound(2, 4))) for _ in range(500)])

    def test_three_variables(self):
        self.check_texts(3, [(7,) * length_bound(3, 1)])
        size = length_bound(3, 2)
        chance = random.Random(75)
        texts = [tuple(chance.choice((3, 8)) for _ in range(size)) for _ in range(8)]
        texts += [overlap_free(size), (0,) * size, (0, 1) * 98 + (0,), (0, 0, 1) * 65 + (1, 1)]
        self.assertEqual({len(text) for text in texts}, {197})
        self.check_texts(3, texts)


if __name__ == "__main__":
    unittest.main()
