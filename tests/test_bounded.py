"""Blocked texts and open texts: promises [2], [3] and [18]."""

import itertools
import random
import unittest

from mustoccur import bounded
from mustoccur.bounded import blocked_texts, count_open, is_open, longest_open
from mustoccur.errors import InvalidCount, InvalidPattern, InvalidText, TooLarge
from tests.checks import check_conventions, check_interface, check_refused
from tests.samples import MANY_KINDS, NOT_PATTERNS, NOT_TEXTS, names_of, square_free

BOUNDS = [
    ("a", 1, 1), ("a", 4, 1), ("a", 2, 3), ("z", 4, 4), ("aa", 1, 1), ("aa", 1, 4), ("aa", 2, 1), ("aa", 2, 2),
    ("aa", 2, 4), ("aa", 3, 1), ("aa", 3, 2), ("aa", 3, 4), ("aa", 4, 2), ("aaa", 2, 1), ("aaa", 2, 2), ("ab", 1, 1),
    ("ab", 2, 1), ("ab", 3, 2), ("ba", 2, 2), ("aba", 2, 1), ("aba", 2, 2), ("aba", 3, 1), ("aba", 1, 3),
    ("abab", 2, 1), ("abab", 2, 2), ("abab", 2, 3), ("abba", 2, 1), ("abba", 2, 2), ("abc", 2, 1), ("abcab", 2, 1),
    ("abacaba", 2, 1), ("cbabc", 2, 2), ("aabb", 3, 1), ("abcba", 3, 1), ("abcdefgh", 1, 1), ("abcdefgh" * 5, 1, 1),
    ("a" * 40, 1, 4), ("abcdabcd", 2, 1), ("abcdefghabcdefgh", 2, 1), ("ab", 4, 2)]
NOT_BOUNDS = [0, 5, -1, 10 ** 29, True, False, None, "1", (1,), [1], {}]


def plain_words(letters, longest):
    return [row for size in range(1, longest + 1) for row in itertools.product(range(letters), repeat=size)]


def plain_blocked(pattern, letters, longest):
    """All blocked texts, ascending, from a plain list of all values."""
    names = names_of(pattern)
    found = set()
    for row in itertools.product(plain_words(letters, longest), repeat=len(names)):
        values = dict(zip(names, row))
        found.add(tuple(letter for name in pattern for letter in values[name]))
    return sorted(found)


def plain_is_open(blocked, letters, text):
    """Whether no block of the text is one of the blocked texts, and no letter is another one."""
    sizes = {len(row) for row in blocked}
    rows = set(blocked)
    blocks = [text[at:at + size] for at in range(len(text)) for size in sizes if at + size <= len(text)]
    return all(letter < letters for letter in text) and not any(block in rows for block in blocks)


def plain_levels(blocked, letters, most):
    """Lists of all open texts of length 0, 1, 2, ..; it ends where there are none, or more than most."""
    rows = set(blocked)
    sizes = sorted({len(row) for row in blocked})
    level = [()]
    while level and len(level) <= most:
        yield level
        longer = [text + (letter,) for text in level for letter in range(letters)]
        level = [text for text in longer if not any(text[-size:] in rows for size in sizes if size <= len(text))]
    yield level


def plain_count(blocked, letters, length):
    """The number of open texts of this length, from the numbers of those with the same last letters."""
    keep = max(len(row) for row in blocked) - 1
    rows = set(blocked)
    counts = {(): 1}
    for _ in range(length):
        later = {}
        for end, many in counts.items():
            for letter in range(letters):
                text = end + (letter,)
                if not any(text[at:] in rows for at in range(len(text))):
                    kept = text[-keep:] if keep else ()
                    later[kept] = later.get(kept, 0) + many
        counts = later
    return sum(counts.values())


class Interface(unittest.TestCase):

    def test_names_and_parameters(self):
        check_interface(self, bounded, {
            "blocked_texts": ["pattern", "letters", "longest"], "is_open": ["pattern", "letters", "longest", "text"],
            "count_open": ["pattern", "letters", "longest", "length"],
            "longest_open": ["pattern", "letters", "longest"]})

    def test_conventions(self):
        for bounds in [("a", 1, 1), ("aa", 2, 2), ("aa", 3, 1)]:
            check_conventions(self, blocked_texts, *bounds)
            check_conventions(self, is_open, *bounds, (0, 1, 0, 1, 2))
            check_conventions(self, count_open, *bounds, 7)
            check_conventions(self, longest_open, *bounds)

    def test_invalid_patterns(self):
        for value in NOT_PATTERNS + [""]:
            for bound in [1, 0, None]:
                check_refused(self, InvalidPattern, value, blocked_texts, value, bound, bound)
                check_refused(self, InvalidPattern, value, longest_open, value, bound, bound)
                check_refused(self, InvalidPattern, value, is_open, value, bound, bound, None)
                check_refused(self, InvalidPattern, value, count_open, value, bound, bound, None)

    def test_invalid_bounds(self):
        # The second pattern has too many values.
        for pattern in ["a", "abcdefgh" * 5]:
            for value in NOT_BOUNDS:
                for other in [1, 4, 0, None]:
                    check_refused(self, InvalidCount, value, blocked_texts, pattern, value, other)
                    check_refused(self, InvalidCount, value, longest_open, pattern, value, other)
                    check_refused(self, InvalidCount, value, is_open, pattern, value, other, None)
                    check_refused(self, InvalidCount, value, count_open, pattern, value, other, None)
                check_refused(self, InvalidCount, value, blocked_texts, pattern, 4, value)
                check_refused(self, InvalidCount, value, longest_open, pattern, 4, value)
                check_refused(self, InvalidCount, value, is_open, pattern, 4, value, None)
                check_refused(self, InvalidCount, value, count_open, pattern, 4, value, -1)

    def test_invalid_texts_and_lengths(self):
        for pattern in ["a", "abcdefgh" * 5]:
            for value in NOT_TEXTS:
                check_refused(self, InvalidText, value, is_open, pattern, 4, 4, value)
            for value in [-1, 201, 10 ** 29, True, False, None, "1", (1,), [], {}]:
                check_refused(self, InvalidCount, value, count_open, pattern, 4, 4, value)

    def test_any_value(self):
        for value in MANY_KINDS:
            if not isinstance(value, str) or value in ("", "A", "a b"):
                check_refused(self, InvalidPattern, value, longest_open, value, 1, 1)
            if isinstance(value, bool) or not isinstance(value, int) or value > 4:
                check_refused(self, InvalidCount, value, longest_open, "a", value, 1)
                check_refused(self, InvalidCount, value, longest_open, "a", 1, value)


class TooManyValues(unittest.TestCase):

    def is_too_large(self, function, *given):
        try:
            function(*given)
        except TooLarge as error:
            self.assertEqual(error.limit, 4096)
            return True
        return False

    def test_exactly_where_the_interface_says(self):
        patterns = ["a" * size for size in (1, 2, 3, 4, 12, 40)] + ["ab", "aba", "abab", "abba" * 4, "abcabc", "abcd"]
        patterns += ["abcdefgh", "abcdefghabcdefgh", "abcdefghabcdefgha", "abcdefg" * 4, "abcdefg" * 5, "abcdef" * 6]
        for pattern, letters, longest in itertools.product(patterns, (1, 2, 3, 4), (1, 2, 3, 4)):
            several = sum(letters ** size for size in range(1, longest + 1))
            expected = several ** len(set(pattern)) * longest * len(pattern) > 4096
            bounds = (pattern, letters, longest)
            with self.subTest(bounds=bounds):
                self.assertEqual(self.is_too_large(blocked_texts, *bounds), expected)
                self.assertEqual(self.is_too_large(is_open, *bounds, (0, 9)), expected)
                self.assertEqual(self.is_too_large(count_open, *bounds, 2), expected)
                self.assertEqual(self.is_too_large(longest_open, *bounds), expected)

    def test_the_edge(self):
        # 2 ** 8 * 1 * 16 is 4,096.
        self.assertEqual(len(blocked_texts("abcdefghabcdefgh", 2, 1)), 256)
        self.assertTrue(self.is_too_large(blocked_texts, "abcdefghabcdefgha", 2, 1))
        self.assertTrue(self.is_too_large(blocked_texts, "abcdefgh", 4, 1))
        # An empty text and a length of 0 do not help.
        self.assertTrue(self.is_too_large(is_open, "abcdefgh", 4, 1, ()))
        self.assertTrue(self.is_too_large(count_open, "abcdefgh", 4, 1, 0))


class Blocked(unittest.TestCase):

    def test_examples(self):
        self.assertEqual(blocked_texts("aa", 2, 1), [(0, 0), (1, 1)])
        self.assertEqual(blocked_texts("ab", 1, 2), [(0, 0), (0, 0, 0), (0, 0, 0, 0)])
        self.assertEqual(blocked_texts("a", 2, 2), [(0,), (0, 0), (0, 1), (1,), (1, 0), (1, 1)])

    def test_against_a_plain_list(self):
        for bounds in BOUNDS:
            with self.subTest(bounds=bounds):
                found = blocked_texts(*bounds)
                self.assertIsInstance(found, list)
                self.assertTrue(all(isinstance(text, tuple) for text in found))
                self.assertEqual(found, plain_blocked(*bounds))


class IsOpen(unittest.TestCase):

    def test_examples(self):
        self.assertIs(is_open("aba", 2, 1, (0, 0, 1, 1)), True)
        self.assertIs(is_open("aba", 2, 1, (0, 0, 1, 0)), False)
        self.assertIs(is_open("a", 2, 1, ()), True)
        self.assertIs(is_open("a", 2, 1, (1,)), False)

    def test_all_short_texts(self):
        for pattern, letters, longest in BOUNDS:
            blocked = plain_blocked(pattern, letters, longest)
            for size in range(6 if letters < 4 else 4):
                for text in itertools.product(range(letters), repeat=size):
                    expected = plain_is_open(blocked, letters, text)
                    self.assertIs(is_open(pattern, letters, longest, text), expected, (pattern, letters, text))

    def test_other_letters(self):
        for pattern, letters, longest in [("aaa", 2, 1), ("aa", 1, 4), ("abcdabcd", 2, 1), ("aaa", 4, 1)]:
            for other in [letters, letters + 1, 999999]:
                for text in [(other,), (0, other), (other, 0), (0, other, 0)]:
                    self.assertIs(is_open(pattern, letters, longest, text), False)
            self.assertIs(is_open(pattern, letters, longest, (letters - 1,)), True)

    def test_longer_texts(self):
        chance = random.Random(71)
        for pattern, letters, longest in [("aaa", 2, 2), ("aa", 3, 2), ("abab", 2, 2), ("aaaa", 2, 1), ("abba", 3, 1)]:
            blocked = plain_blocked(pattern, letters, longest)
            for _ in range(60):
                text = tuple(chance.randrange(letters) for _ in range(chance.randint(5, 40)))
                self.assertIs(is_open(pattern, letters, longest, text), plain_is_open(blocked, letters, text), text)

    def test_long_texts(self):
        free = square_free(4096)
        self.assertIs(is_open("aa", 3, 4, free), True)
        for at in [0, 2000, 4094]:
            self.assertIs(is_open("aa", 3, 4, free[:at + 1] + free[at:4095]), False)
        self.assertIs(is_open("aa", 3, 4, free[:4095] + (3,)), False)
        # A square whose half is longer than the bound.
        self.assertIs(is_open("aa", 3, 4, (0, 1, 2, 0, 2, 1) * 2), True)
        self.assertIs(is_open("aa", 3, 4, (0, 1, 0, 2) * 2), False)


class CountOpen(unittest.TestCase):

    def test_examples(self):
        self.assertEqual(count_open("aa", 2, 1, 3), 2)
        for bounds in BOUNDS:
            self.assertEqual(count_open(*bounds, 0), 1)
        self.assertEqual(count_open("a", 4, 1, 1), 0)
        self.assertEqual(count_open("a", 4, 1, 200), 0)

    def test_against_a_plain_list_of_all_texts(self):
        for bounds in BOUNDS:
            blocked = plain_blocked(*bounds)
            for length in range(6):
                texts = itertools.product(range(bounds[1]), repeat=length)
                expected = sum(plain_is_open(blocked, bounds[1], text) for text in texts)
                self.assertEqual(count_open(*bounds, length), expected, (bounds, length))

    def test_great_lengths(self):
        for bounds in [("aa", 2, 1), ("aa", 3, 1), ("aa", 4, 1), ("aa", 3, 2), ("aaa", 2, 1), ("aaa", 2, 2),
                       ("abab", 2, 1), ("abba", 2, 1), ("abba", 3, 1), ("aabb", 3, 1), ("abab", 2, 3), ("aba", 3, 1)]:
            blocked = plain_blocked(*bounds)
            for length in [7, 50, 199, 200]:
                self.assertEqual(count_open(*bounds, length), plain_count(blocked, bounds[1], length), (bounds, length))
        self.assertEqual(count_open("aa", 4, 1, 200), 4 * 3 ** 199)
        self.assertEqual(count_open("a" * 40, 1, 4, 39), 1)
        self.assertEqual(count_open("a" * 40, 1, 4, 40), 0)


class LongestOpen(unittest.TestCase):

    def check_endless(self, blocked, letters, found):
        kind, prefix, cycle = found
        self.assertEqual(kind, "endless")
        self.assertIsInstance(prefix, tuple)
        self.assertIsInstance(cycle, tuple)
        self.assertNotEqual(cycle, ())
        reach = max(len(row) for row in blocked)
        for times in [0, 1, 2, 3, reach // len(cycle) + 3]:
            self.assertTrue(plain_is_open(blocked, letters, prefix + cycle * times))

    def test_examples(self):
        for bounds, expected in [
                (("ab", 2, 1), (0,)), (("a", 1, 1), ()), (("a", 4, 4), ()), (("aa", 2, 2), (0, 1, 0)),
                (("aa", 1, 1), (0,)), (("abc", 4, 1), (0, 0)), (("aba", 1, 3), (0, 0)), (("a" * 40, 1, 4), (0,) * 39)]:
            with self.subTest(bounds=bounds):
                self.assertEqual(longest_open(*bounds), ("finite", expected))

    def test_both_kinds(self):
        kinds = {"finite": 0, "endless": 0}
        for bounds in BOUNDS:
            with self.subTest(bounds=bounds):
                found = longest_open(*bounds)
                self.assertIsInstance(found, tuple)
                kinds[found[0]] += 1
                blocked = plain_blocked(*bounds)
                if found[0] == "endless":
                    self.check_endless(blocked, bounds[1], found)
                    continue
                levels = list(plain_levels(blocked, bounds[1], 20000))
                self.assertEqual(levels[-1], [])
                self.assertEqual(found, ("finite", levels[-2][0]))
        self.assertGreater(min(kinds.values()), 10)

    def test_kinds_that_are_known(self):
        for bounds, kind in [(("aa", 3, 4), "endless"), (("aa", 2, 2), "finite"), (("aa", 2, 1), "endless"),
                             (("aaa", 2, 4), "endless"), (("abab", 2, 3), "finite"), (("abab", 2, 1), "endless"),
                             (("aba", 3, 1), "endless"), (("aba", 2, 2), "finite")]:
            with self.subTest(bounds=bounds):
                self.assertEqual(longest_open(*bounds)[0], kind)

    def test_the_most_states(self):
        for bounds in [("aaa", 4, 4), ("abcdefghabcdefgh", 2, 1), ("a" * 12, 4, 3), ("aa", 4, 4)]:
            found = longest_open(*bounds)
            self.check_endless(plain_blocked(*bounds), bounds[1], found)
            self.assertLessEqual(max(len(found[1]), len(found[2])), 4096)


if __name__ == "__main__":
    unittest.main()
