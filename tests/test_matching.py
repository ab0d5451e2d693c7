"""Matches and places: promises [2], [3] and [6]."""

import copy
import inspect
import itertools
import random
import unittest

from mustoccur import matching
from mustoccur.errors import InvalidPattern, InvalidText, TooLarge
from mustoccur.matching import find, is_place, matches, occurs
from tests.samples import (
    MANY_KINDS, NOT_PATTERNS, NOT_TEXTS, overlap_free, slow_find, slow_matches, square_free)


def in_order(values):
    """The values with the order of their keys, which == does not compare."""
    return list(values.items())


def small_cases():
    """Patterns and texts of many forms, the same ones in each run."""
    chance = random.Random(6)
    for _ in range(1500):
        names = chance.sample("abxyz", chance.randint(1, 4))
        pattern = "".join(chance.choice(names) for _ in range(chance.randint(1, 8)))
        text = tuple(chance.choice((0, 7, 999999)) for _ in range(chance.randint(0, 11)))
        if chance.random() < 0.6:
            blocks = {name: tuple(chance.choice((0, 7)) for _ in range(chance.randint(1, 3))) for name in names}
            text = tuple(letter for name in pattern for letter in blocks[name])[:14]
        yield pattern, text


class Interface(unittest.TestCase):

    def test_names_and_parameters(self):
        listed = {"matches": ["pattern", "text"], "find": ["pattern", "text"], "occurs": ["pattern", "text"],
                  "is_place": ["pattern", "text", "value"]}
        for name, parameters in listed.items():
            with self.subTest(name=name):
                function = getattr(matching, name)
                self.assertEqual(list(inspect.signature(function).parameters), parameters)
                self.assertEqual(function.__module__, "mustoccur.matching")

    def test_arguments_by_name(self):
        self.assertEqual(matches(text=(1, 1), pattern="aa"), [{"a": (1,)}])
        self.assertEqual(find(text=(1, 1), pattern="aa"), (0, {"a": (1,)}))
        self.assertIs(occurs(text=(1, 1), pattern="aa"), True)
        self.assertIs(is_place(value=(0, {"a": (1,)}), text=(1, 1), pattern="aa"), True)


class Refusals(unittest.TestCase):

    def test_invalid_pattern_first(self):
        calls = [matches, find, occurs, lambda pattern, text: is_place(pattern, text, None)]
        for value in NOT_PATTERNS:
            for text in [(), (1, 2), [1], None]:
                for call in calls:
                    with self.subTest(value=value, text=text):
                        with self.assertRaises(InvalidPattern) as caught:
                            call(value, text)
                        self.assertIs(caught.exception.value, value)

    def test_then_invalid_text(self):
        calls = [matches, find, occurs, lambda pattern, text: is_place(pattern, text, (0, {}))]
        for value in NOT_TEXTS:
            for pattern in ["", "a", "abcdefgh" * 5]:
                for call in calls:
                    with self.subTest(value=str(value)[:40], pattern=pattern):
                        with self.assertRaises(InvalidText) as caught:
                            call(pattern, value)
                        self.assertIs(caught.exception.value, value)


class Matches(unittest.TestCase):

    def test_examples(self):
        for pattern, text, expected in [
                ("", (), [{}]), ("", (1,), []), ("", (1,) * 4096, []), ("a", (), []), ("ab", (1,), []),
                ("aba", (1, 2, 1, 2, 1), [{"a": (1,), "b": (2, 1, 2)}]),
                ("aa", (1, 2), []), ("aa", (1, 2, 1, 2), [{"a": (1, 2)}]), ("aa", (1, 1, 1), []),
                ("ab", (1, 2, 3), [{"a": (1,), "b": (2, 3)}, {"a": (1, 2), "b": (3,)}]),
                ("zaz", (0,) * 5, [{"z": (0,), "a": (0,) * 3}, {"z": (0, 0), "a": (0,)}])]:
            with self.subTest(pattern=pattern, text=text):
                self.assertEqual(matches(pattern, text), expected)

    def test_the_same_as_a_slow_search(self):
        for pattern, text in small_cases():
            with self.subTest(pattern=pattern, text=text):
                expected = slow_matches(pattern, text)
                self.assertEqual([in_order(row) for row in matches(pattern, text)], [in_order(row) for row in expected])

    def test_all_short_patterns(self):
        text = (1, 2, 1, 1, 2, 1, 1)
        for size in range(1, 6):
            for row in itertools.product("cab", repeat=size):
                pattern = "".join(row)
                found = matches(pattern, text)
                self.assertEqual([in_order(row) for row in found],
                                 [in_order(row) for row in slow_matches(pattern, text)], pattern)

    def test_order_of_the_keys(self):
        found = matches("cbac", (5, 1, 2, 3, 5))
        self.assertEqual([list(row) for row in found], [["c", "b", "a"]] * 2)
        self.assertEqual([row["b"] for row in found], [(1,), (1, 2)])

    def test_exactly_a_thousand(self):
        self.assertEqual(matches("ab", tuple(range(1001))),
                         [{"a": tuple(range(at)), "b": tuple(range(at, 1001))} for at in range(1, 1001)])
        self.assertEqual(len(matches("aab", (0,) * 2002)), 1000)
        self.assertEqual(len(matches("abab", (3,) * 2002)), 1000)
        self.assertEqual(len(matches("abc", (0,) * 45)), 946)

    def test_more_than_a_thousand(self):
        for pattern, text in [("ab", tuple(range(1002))), ("aab", (0,) * 2003), ("abab", (3,) * 2004),
                              ("abc", (0,) * 47), ("ab", (1,) * 4096), ("abcdefgh", tuple(range(4096))),
                              ("abcdefgh", (0,) * 15)]:
            with self.subTest(pattern=pattern, size=len(text)):
                with self.assertRaises(TooLarge) as caught:
                    matches(pattern, text)
                self.assertEqual(caught.exception.limit, 1000)

    def test_long_texts(self):
        long = square_free(4096)
        self.assertEqual(matches("a", long), [{"a": long}])
        self.assertEqual(matches("aa", long), [])
        self.assertEqual(matches("aa", long[:2048] * 2), [{"a": long[:2048]}])
        self.assertEqual(matches("aa", (0,) * 4095), [])
        self.assertEqual(matches("a" * 40, (0,) * 4000), [{"a": (0,) * 100}])
        self.assertEqual(matches("a" * 40, (0,) * 4001), [])
        self.assertRaises(TooLarge, matches, "ab", long)
        self.assertEqual(matches("aba", tuple(range(4095)) + (0,)), [{"a": (0,), "b": tuple(range(1, 4095))}])

    def test_many_variables_and_no_match(self):
        self.assertEqual(matches("aabbccddeeffgghh", (0,) * 401 + (1,)), [])
        self.assertEqual(matches("aabbccddeeffgghh", (0,) * 401), [])
        self.assertEqual(matches("abcdefghhgfedcba", (0,) * 401 + (1,)), [])
        self.assertEqual(matches("abcdefgh" * 5, (0,) * 39), [])

    def test_results_are_new(self):
        first = matches("ab", (1, 2, 3))
        kept = copy.deepcopy(first)
        first[0]["a"] = (9,)
        first.pop()
        self.assertEqual(matches("ab", (1, 2, 3)), kept)
        empty = matches("", ())
        empty[0]["a"] = (1,)
        empty.append(1)
        self.assertEqual(matches("", ()), [{}])
        none = matches("aa", (1, 2))
        none.append(1)
        self.assertEqual(matches("aa", (1, 2)), [])


class Find(unittest.TestCase):

    def test_examples(self):
        for pattern, text, expected in [
                ("", (), (0, {})), ("", (1, 2), (0, {})), ("a", (), None), ("a", (4, 5), (0, {"a": (4,)})),
                ("aa", (3, 1, 2, 1, 2), (1, {"a": (1, 2)})), ("aa", (1, 2, 3), None), ("aa", (1,), None),
                ("abcdefgh" * 5, (0,) * 39, None), ("ab", (5, 5), (0, {"a": (5,), "b": (5,)})),
                ("bab", (1, 2, 3, 1), (0, {"b": (1,), "a": (2, 3)}))]:
            with self.subTest(pattern=pattern, text=text):
                self.assertEqual(find(pattern, text), expected)
                self.assertIs(occurs(pattern, text), expected is not None)

    def test_the_same_as_a_slow_search(self):
        for pattern, text in small_cases():
            with self.subTest(pattern=pattern, text=text):
                expected = slow_find(pattern, text)
                place = find(pattern, text)
                self.assertIs(occurs(pattern, text), expected is not None)
                self.assertEqual(place, expected)
                if place is not None:
                    self.assertIsInstance(place, tuple)
                    self.assertEqual(in_order(place[1]), in_order(expected[1]))
                    self.assertIs(is_place(pattern, text, place), True)

    def test_start_before_lengths(self):
        # The place at 0 has a long value, the one at 1 a short one.
        self.assertEqual(find("aa", (1, 2, 2, 1, 2, 2)), (0, {"a": (1, 2, 2)}))

    def test_first_length_before_later_ones(self):
        # A shorter first value wins although the second one becomes longer.
        self.assertEqual(find("abab", (0, 0, 1, 0, 0, 1)), (0, {"a": (0,), "b": (0, 1)}))
        self.assertEqual(find("baba", (0, 0, 1, 0, 0, 1)), (0, {"b": (0,), "a": (0, 1)}))

    def test_shortest_lengths(self):
        self.assertEqual(find("aa", (0,) * 9), (0, {"a": (0,)}))
        self.assertEqual(find("abcdefgh", tuple(range(4096))),
                         (0, {name: (at,) for at, name in enumerate("abcdefgh")}))

    def test_one_place_far_behind_the_start(self):
        start = tuple(range(500))
        for pattern, block, values in [
                ("aa", (600, 601, 600, 601), {"a": (600, 601)}),
                ("aba", (600, 601, 602, 600), {"a": (600,), "b": (601, 602)}),
                ("abba", (600, 601, 602, 601, 602, 600), {"a": (600,), "b": (601, 602)}),
                ("abcacb", (600, 601, 602, 600, 602, 601), {"a": (600,), "b": (601,), "c": (602,)}),
                ("abacaba", (600, 601, 600, 602, 600, 601, 600), {"a": (600,), "b": (601,), "c": (602,)})]:
            with self.subTest(pattern=pattern):
                text = start + block
                self.assertEqual(find(pattern, text), (500, values))
                self.assertIs(occurs(pattern, text), True)
                self.assertIsNone(find(pattern, text[:-1]))
        free = square_free(600)
        self.assertEqual(find("aa", free + (7, 8, 9, 7, 8, 9, 5)), (600, {"a": (7, 8, 9)}))

    def test_texts_without_a_place(self):
        for pattern, text in [("aa", square_free(600)), ("aabb", square_free(600)), ("abab", square_free(400)),
                              ("aaa", overlap_free(600)), ("ababa", overlap_free(300)), ("aba", tuple(range(600))),
                              ("abcdefggh", square_free(300)), ("abcabc", tuple(range(400)) + (0, 1)),
                              ("abcdefghhgfedcba", tuple(range(600))), ("aa", tuple(range(4096)))]:
            with self.subTest(pattern=pattern, size=len(text)):
                self.assertIsNone(find(pattern, text))
                self.assertIs(occurs(pattern, text), False)

    def test_results_are_new(self):
        for pattern, text in [("", (1,)), ("aba", (1, 2, 1))]:
            first = find(pattern, text)
            kept = copy.deepcopy(first)
            first[1]["z"] = (9,)
            self.assertEqual(find(pattern, text), kept)


class IsPlace(unittest.TestCase):

    TEXT = (3, 1, 2, 1, 2, 1)

    def test_places(self):
        for pattern, place in [
                ("aa", (1, {"a": (1, 2)})), ("aa", (2, {"a": (2, 1)})), ("aba", (1, {"a": (1,), "b": (2,)})),
                ("aba", (1, {"b": (2,), "a": (1,)})), ("aba", (3, {"a": (1,), "b": (2,)})), ("a", (5, {"a": (1,)})),
                ("a", (0, {"a": (3, 1, 2, 1, 2, 1)})), ("ba", (4, {"a": (1,), "b": (2,)}))]:
            with self.subTest(pattern=pattern, place=place):
                self.assertIs(is_place(pattern, self.TEXT, place), True)

    def test_changed_places(self):
        for value in [
                (0, {"a": (1,), "b": (2,)}), (2, {"a": (1,), "b": (2,)}), (4, {"a": (1,), "b": (2,)}),
                (6, {"a": (1,), "b": (2,)}), (7, {"a": (1,), "b": (2,)}), (-1, {"a": (1,), "b": (2,)}),
                (-5, {"a": (1,), "b": (2,)}), (-6, {"a": (3,), "b": (1,)}), (10 ** 30 - 1, {"a": (1,), "b": (2,)}),
                (True, {"a": (1,), "b": (2,)}), ("1", {"a": (1,), "b": (2,)}), (None, {"a": (1,), "b": (2,)}),
                ((1,), {"a": (1,), "b": (2,)}), (1, {"a": (1,)}), (1, {"a": (1,), "c": (2,)}),
                (1, {"a": (1,), "b": (2,), "c": (1,)}), (1, {"a": (2,), "b": (2,)}), (1, {"a": (1,), "b": (1,)}),
                (1, {"a": (1,), "b": ()}), (1, {"a": (True,), "b": (2,)}), (1, {"a": [1], "b": (2,)}),
                (1, {"a": (1,), "b": [2]}), (1, {"a": 1, "b": 2}), (1, {"a": "1", "b": "2"}), (1, {}), (1, None),
                (1, [("a", (1,)), ("b", (2,))]), (1,), (1, {"a": (1,), "b": (2,)}, 0), [1, {"a": (1,), "b": (2,)}],
                {1: {"a": (1,), "b": (2,)}}, {"a": (1,), "b": (2,)}, (1, {"a": (1,) * 4096, "b": (2,)}),
                (1, {"a": (1,), "b": (2, 1, 2, 1)})]:
            with self.subTest(value=str(value)[:60]):
                self.assertIs(is_place("aba", self.TEXT, value), False)

    def test_a_bool_is_no_start(self):
        self.assertIs(is_place("a", (1, 1), (False, {"a": (1,)})), False)
        self.assertIs(is_place("a", (1, 1), (True, {"a": (1,)})), False)
        self.assertIs(is_place("", (1, 1), (False, {})), False)

    def test_a_start_is_not_counted_from_the_end(self):
        self.assertIs(is_place("a", (1, 1), (-1, {"a": (1,)})), False)
        self.assertIs(is_place("a", (1, 1), (-2, {"a": (1, 1)})), False)
        self.assertIs(is_place("", (1, 1), (-1, {})), False)

    def test_the_empty_pattern(self):
        for text in [(), (1,), (1, 2, 3), (0,) * 4096]:
            for start in [0, len(text) // 2, len(text)]:
                self.assertIs(is_place("", text, (start, {})), True)
            for start in [-1, len(text) + 1, len(text) + 2, 10 ** 29]:
                self.assertIs(is_place("", text, (start, {})), False)
            self.assertIs(is_place("", text, (0, {"a": (1,)})), False)
            self.assertIs(is_place("", text, (0, None)), False)
            self.assertIs(is_place("", text, (0, ())), False)
            self.assertIs(is_place("", text, [0, {}]), False)

    def test_behind_the_end(self):
        self.assertIs(is_place("a", (1, 2), (1, {"a": (2,)})), True)
        self.assertIs(is_place("a", (1, 2), (1, {"a": (2, 2)})), False)
        self.assertIs(is_place("a", (1, 2), (2, {"a": (2,)})), False)
        self.assertIs(is_place("aa", (1, 1), (1, {"a": (1,)})), False)
        self.assertIs(is_place("a", (), (0, {"a": (1,)})), False)

    def test_any_value(self):
        places = [(0, {"a": (1,)}), (1, {"a": (1,)}), (0, {"a": (1, 1)})]
        for value in MANY_KINDS + places:
            with self.subTest(value=value):
                self.assertIs(is_place("a", (1, 1), value), value in places)

    def test_every_place_of_a_small_text(self):
        text = (1, 1, 2, 1, 1)
        blocks = [row for size in range(4) for row in itertools.product((1, 2), repeat=size)]
        for start in range(-1, 7):
            for first in blocks:
                for second in blocks:
                    whole = first + second + first
                    fits = first != () and second != () and start >= 0 and text[start:start + len(whole)] == whole
                    for value in [(start, {"b": first, "a": second}), (start, {"a": second, "b": first})]:
                        self.assertIs(is_place("bab", text, value), fits, value)

    def test_arguments_stay(self):
        value = (1, {"b": (2,), "a": (1,)})
        self.assertIs(is_place("aba", self.TEXT, value), True)
        self.assertEqual(in_order(value[1]), [("b", (2,)), ("a", (1,))])
        wrong = [1, {"a": [1]}]
        self.assertIs(is_place("aba", self.TEXT, wrong), False)
        self.assertEqual(wrong, [1, {"a": [1]}])


class Repeated(unittest.TestCase):

    def test_equal_calls_return_equal_results(self):
        for pattern, text in [("", ()), ("aba", (1, 2, 1, 2, 1)), ("abcab", (0,) * 12), ("aa", (1, 2, 3))]:
            self.assertEqual(matches(pattern, text), matches(pattern, text))
            self.assertEqual(find(pattern, text), find(pattern, text))
            self.assertEqual(occurs(pattern, text), occurs(pattern, text))


if __name__ == "__main__":
    unittest.main()
