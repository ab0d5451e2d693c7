"""Universal texts, places from chains and chains from places: promises [2], [3] and [11]."""

import itertools
import random
import unittest

from mustoccur import universal as module
from mustoccur.chains import chain
from mustoccur.errors import InvalidChain, InvalidCount, InvalidPattern, InvalidPlace
from mustoccur.universal import chain_from_place, place_from_chain, universal, universal_letter
from tests.checks import check_conventions, check_interface, check_refused
from tests.plain import grown_patterns, nested, plain_free_sets, plain_is_chain, short_patterns, some_patterns, without
from tests.samples import MANY_KINDS, NOT_PATTERNS, names_of, slow_starts

PATTERNS = (short_patterns("abc", 5) + some_patterns(31, 60, longest=10) + grown_patterns(32, 60, "stuvw")
            + ["abcdefgh", "abacadaeafagah", "abcadefagbahac", "hgabacabadabacabafe", "abacabadabacabaefgh"])


def plain_universal(count):
    """The text, by its definition."""
    if count == 0:
        return ()
    return plain_universal(count - 1) + (count - 1,) + plain_universal(count - 1)


def plain_is_place(pattern, text, place):
    """Whether this is a place with all values as they are returned."""
    start, values = place
    block = tuple(letter for name in pattern for letter in values[name])
    return (isinstance(place, tuple) and isinstance(values, dict) and list(values) == names_of(pattern)
            and all(isinstance(value, tuple) and value for value in values.values())
            and start >= 0 and text[start:start + len(block)] == block)


def some_chain(pattern, chance):
    """A chain with steps by chance, or None if they come to a locked pattern."""
    steps = []
    while pattern:
        options = plain_free_sets(pattern)
        if not options:
            return None
        steps.append(chance.choice(options))
        pattern = without(pattern, steps[-1])
    return steps


def many_chains():
    """Pairs of patterns and chains of them."""
    chance = random.Random(33)
    for pattern in PATTERNS:
        steps = chain(pattern)
        if steps is not None:
            yield pattern, steps
            for _ in range(5):
                other = some_chain(pattern, chance)
                if other is not None:
                    yield pattern, other


class Interface(unittest.TestCase):

    def test_names_and_parameters(self):
        check_interface(self, module, {
            "universal": ["count"], "universal_letter": ["index"], "place_from_chain": ["pattern", "steps"],
            "chain_from_place": ["pattern", "count", "place"]})

    def test_conventions(self):
        check_conventions(self, universal, 5)
        check_conventions(self, universal_letter, 5)
        check_conventions(self, place_from_chain, "", [])
        check_conventions(self, place_from_chain, "aba", ["a", "b"])
        check_conventions(self, place_from_chain, "abc", ("ac", "b"))
        check_conventions(self, chain_from_place, "", 3, (2, {}))
        check_conventions(self, chain_from_place, "aba", 3, (0, {"b": (1,), "a": (0,)}))
        check_conventions(self, chain_from_place, "ab", 3, (1, {"b": (0, 2, 0), "a": (1,)}))


class Universal(unittest.TestCase):

    def test_each_count(self):
        for count in range(13):
            with self.subTest(count=count):
                text = universal(count)
                self.assertIsInstance(text, tuple)
                self.assertEqual(text, plain_universal(count))
                self.assertEqual(len(text), 2 ** count - 1)
        self.assertEqual(universal(3), (0, 1, 0, 2, 0, 1, 0))

    def test_invalid_counts(self):
        for value in [-1, 13, 10 ** 30 - 1, -(10 ** 29), True, False, None, "3", (3,), [3], {}, {3: 3}]:
            check_refused(self, InvalidCount, value, universal, value)

    def test_any_value(self):
        for value in MANY_KINDS:
            if value not in (0, 1) or isinstance(value, bool):
                check_refused(self, InvalidCount, value, universal, value)


class UniversalLetter(unittest.TestCase):

    def test_as_in_the_texts(self):
        self.assertEqual(universal_letter(11), 2)
        self.assertEqual(tuple(universal_letter(index) for index in range(4095)), plain_universal(12))

    def test_powers_of_two_and_their_neighbours(self):
        for power in range(60):
            for index in range(max(0, 2 ** power - 5), 2 ** power + 5):
                if index <= 10 ** 18:
                    zeros = len(bin(index + 1)) - len(bin(index + 1).rstrip("0"))
                    self.assertEqual(universal_letter(index), zeros, index)
            if 2 ** power - 1 <= 10 ** 18:
                self.assertEqual(universal_letter(2 ** power - 1), power)

    def test_the_edges(self):
        self.assertEqual(universal_letter(0), 0)
        self.assertEqual(universal_letter(10 ** 18), 0)
        self.assertEqual(universal_letter(10 ** 18 - 1), 18)
        for value in [-1, 10 ** 18 + 1, 10 ** 30 - 1, True, False, None, "0", (0,), [], {}]:
            check_refused(self, InvalidCount, value, universal_letter, value)


class PlaceFromChain(unittest.TestCase):

    def test_examples(self):
        self.assertEqual(place_from_chain("aba", ["a", "b"]), (0, {"a": (0,), "b": (1,)}))
        self.assertEqual(place_from_chain("", []), (0, {}))
        self.assertEqual(place_from_chain("", ()), (0, {}))
        self.assertEqual(place_from_chain("z", ["z"]), (0, {"z": (0,)}))

    def test_each_place_is_a_place(self):
        seen = 0
        for pattern, steps in many_chains():
            for given in [steps, tuple(steps)]:
                place = place_from_chain(pattern, given)
                self.assertTrue(plain_is_place(pattern, plain_universal(len(steps)), place), (pattern, steps))
            seen += 1
        self.assertGreater(seen, 300)

    def test_every_chain_of_short_patterns(self):
        for pattern in short_patterns("abc", 5) + ["abacaba", "abcd", "abcbdbc"]:
            for steps in every_chain(pattern):
                place = place_from_chain(pattern, steps)
                self.assertTrue(plain_is_place(pattern, plain_universal(len(steps)), place), (pattern, steps))

    def test_nested_words_use_the_whole_text(self):
        for names in ["a", "ab", "abc", "abcd", "vwxyz"]:
            place = place_from_chain(nested(names), list(names))
            self.assertEqual(place, (0, {name: (names.index(name),) for name in names_of(nested(names))}))

    def test_eight_steps(self):
        for order in ["abcdefgh", "hgfedcba", "dbacfheg"]:
            place = place_from_chain("abcdefgh", list(order))
            self.assertTrue(plain_is_place("abcdefgh", plain_universal(8), place), order)

    def test_invalid_chains(self):
        for pattern, values in [
                ("", [[""], ["a"], "", {}, None]), ("a", [[], ["b"], ["a", "a"], ["a", ""], "a"]),
                ("aba", [["b", "a"], ["ab"], ["a"], ["a", "b", "b"], "ab", [["a"], ["b"]], {"a": 1, "b": 1}]),
                ("aa", [["a"], [], ()])]:
            for value in values:
                check_refused(self, InvalidChain, value, place_from_chain, pattern, value)

    def test_any_value(self):
        for value in MANY_KINDS:
            check_refused(self, InvalidChain, value, place_from_chain, "aba", value)
            if value not in ([], ()):
                check_refused(self, InvalidChain, value, place_from_chain, "", value)

    def test_invalid_pattern_first(self):
        for value in NOT_PATTERNS:
            for steps in [[], None, ["a"]]:
                check_refused(self, InvalidPattern, value, place_from_chain, value, steps)


def every_chain(pattern):
    """All chains of the pattern."""
    if pattern == "":
        return [[]]
    return [[letters] + rest for letters in plain_free_sets(pattern)
            for rest in every_chain(without(pattern, letters))]


class ChainFromPlace(unittest.TestCase):

    def check_place(self, pattern, count, place):
        steps = chain_from_place(pattern, count, place)
        self.assertIsInstance(steps, list)
        self.assertLessEqual(len(steps), count, (pattern, count, place))
        self.assertTrue(plain_is_chain(pattern, steps), (pattern, count, place))

    def test_examples(self):
        self.assertEqual(chain_from_place("aba", 3, (0, {"a": (0,), "b": (1,)})), ["a", "b"])
        for count in range(13):
            for start in [0, 1, 2 ** count - 1]:
                if start < 2 ** count:
                    self.assertEqual(chain_from_place("", count, (start, {})), [])
        self.assertEqual(chain_from_place("a", 12, (0, {"a": plain_universal(12)})), ["a"])
        self.assertEqual(chain_from_place("a", 12, (2047, {"a": (11,)})), ["a"])

    def test_places_from_chains(self):
        for pattern, steps in many_chains():
            place = place_from_chain(pattern, steps)
            for count in range(len(steps), 13):
                self.check_place(pattern, count, place)

    def test_moved_places(self):
        for pattern, steps in many_chains():
            start, values = place_from_chain(pattern, steps)
            for far in [1, 3, 8]:
                if len(steps) + 4 <= 12:
                    moved = start + far * 2 ** len(steps)
                    backwards = dict(reversed(list(values.items())))
                    self.check_place(pattern, len(steps) + 4, (moved, backwards))

    def test_every_place_of_short_patterns(self):
        for pattern in short_patterns("abc", 4)[1:] + ["abacaba", "abcba"]:
            for count in range(5):
                text = plain_universal(count)
                for start in range(len(text)):
                    for values, end in slow_starts(pattern, text[start:start + 9]):
                        self.check_place(pattern, count, (start, values))

    def test_long_values(self):
        text = plain_universal(12)
        chance = random.Random(34)
        for _ in range(200):
            cuts = sorted(chance.sample(range(4096), chance.randint(2, 9)))
            names = "abcdefgh"[:len(cuts) - 1]
            values = {name: text[low:high] for name, low, high in zip(names, cuts, cuts[1:])}
            self.check_place(names, 12, (cuts[0], values))
        half = plain_universal(11)
        self.check_place("aba", 12, (0, {"a": half, "b": (11,)}))
        self.check_place("aba", 12, (1, {"a": half[1:], "b": (11, 0)}))

    def test_invalid_counts(self):
        for value in [-1, 13, 10 ** 29, True, None, "3", (3,), [], {}]:
            for place in [(0, {"a": (0,)}), None]:
                check_refused(self, InvalidCount, value, chain_from_place, "a", value, place)

    def test_invalid_places(self):
        for pattern, count, values in [
                ("", 2, [(4, {}), (-1, {}), (True, {}), (0, {"a": (0,)}), (0, None), [0, {}], ()]),
                ("a", 0, [(0, {"a": (0,)}), (0, {}), (0, {"a": ()})]),
                ("a", 1, [(1, {"a": (0,)}), (0, {"a": (1,)}), (0, {"a": (0, 1)}), (-1, {"a": (0,)}), (False, {"a": (0,)})]),
                ("aba", 2, [(0, {"a": (1,), "b": (0,)}), (0, {"a": (0,)}), (1, {"a": (0,), "b": (1,)}),
                            (0, {"a": (0,), "b": (1,), "c": (0,)}), (0, {"a": [0], "b": [1]}), [0, {"a": (0,), "b": (1,)}],
                            (4, {"a": (0,), "b": (2,)})]),
                ("aa", 12, [(0, {"a": (0,)}), (0, {"a": (0, 1, 0)})])]:
            for value in values:
                check_refused(self, InvalidPlace, value, chain_from_place, pattern, count, value)

    def test_any_value(self):
        for value in MANY_KINDS:
            check_refused(self, InvalidPlace, value, chain_from_place, "aba", 3, value)
            if value != (0, {}):
                check_refused(self, InvalidPlace, value, chain_from_place, "", 3, value)

    def test_order_of_the_checks(self):
        for value in NOT_PATTERNS:
            check_refused(self, InvalidPattern, value, chain_from_place, value, 13, None)
        check_refused(self, InvalidCount, None, chain_from_place, "a", None, None)

    def test_avoidable_patterns_have_no_place(self):
        text = plain_universal(6)
        for pattern in ["aa", "abab", "abba"]:
            for start, size in itertools.product(range(0, 63, 7), range(1, 5)):
                values = {name: text[start:start + size] for name in names_of(pattern)}
                self.assertRaises(InvalidPlace, chain_from_place, pattern, 6, (start, values))


if __name__ == "__main__":
    unittest.main()
