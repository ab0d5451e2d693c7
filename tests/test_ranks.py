"""Borders, ranks, the length bound and places of unavoidable patterns: promises [2], [3], [10], [12] and [13]."""

import itertools
import random
import unittest

from mustoccur import ranks
from mustoccur.chains import chain
from mustoccur.errors import Avoidable, InvalidCount, InvalidPattern, InvalidText, RankTooSmall, TooLarge
from mustoccur.matching import is_place
from mustoccur.ranks import best_block, borders, find_unavoidable, find_universal, length_bound, rank, rank_values
from mustoccur.universal import universal
from tests.checks import check_conventions, check_interface, check_refused
from tests.plain import grown_patterns, nested, short_patterns, some_patterns
from tests.samples import MANY_KINDS, NOT_PATTERNS, NOT_TEXTS, names_of, overlap_free, slow_matches, square_free

SHORT_TEXTS = [row for size in range(9) for row in itertools.product((0, 1), repeat=size)]
SHORT_TEXTS += [row for size in range(1, 6) for row in itertools.product((3, 1, 2), repeat=size)]
LONG_TEXTS = [(0,) * 400, tuple(range(400)), (0, 1) * 200, (0, 0, 1, 0) * 100, (7, 7, 8) * 133 + (7,), square_free(400),
              overlap_free(400), universal(8), universal(8) + universal(7), (999999,) + (0,) * 399, (1, 2, 1) * 100]
NOT_COUNTS = [0, 13, -1, 10 ** 29, True, False, None, "1", (1,), [1], {}]


def plain_borders(text):
    return [size for size in range(1, len(text)) if text[:size] == text[-size:]]


def plain_rank(text, known):
    """The rank by its definition with borders; known keeps what was found before."""
    if text not in known:
        sizes = [size for size in plain_borders(text) if 2 * size < len(text)]
        known[text] = 0 if text == () else 1 + max([plain_rank(text[:size], known) for size in sizes], default=0)
    return known[text]


def some_texts(seed, many, longest):
    """Texts with many equal blocks, the same ones in each run."""
    chance = random.Random(seed)
    found = []
    for _ in range(many):
        text = tuple(chance.choice((0, 1, 2)) for _ in range(chance.randint(1, 3)))
        while len(text) < longest and chance.random() < 0.9:
            text = text + tuple(chance.choice((0, 1, 2)) for _ in range(chance.randint(1, 2))) + text
        found.append((text + tuple(chance.choice((0, 5)) for _ in range(chance.randint(0, 3))))[:longest])
    return found


class Interface(unittest.TestCase):

    def test_names_and_parameters(self):
        check_interface(self, ranks, {
            "borders": ["text"], "rank": ["text"], "rank_values": ["text", "count"], "best_block": ["text"],
            "find_universal": ["text", "count"], "length_bound": ["count", "letters"],
            "find_unavoidable": ["pattern", "text"]})

    def test_conventions(self):
        for text in [(), (1,), (1, 2, 1, 1, 2, 1)]:
            for function in [borders, rank, best_block]:
                check_conventions(self, function, text)
            check_conventions(self, find_universal, text, 2)
            check_conventions(self, find_unavoidable, "", text)
        check_conventions(self, rank_values, (1, 2, 1, 1, 2, 1), 2)
        check_conventions(self, length_bound, 2, 3)
        check_conventions(self, find_unavoidable, "bab", (1, 2, 1, 1, 2, 1))

    def test_invalid_texts(self):
        for value in NOT_TEXTS:
            for function in [borders, rank, best_block]:
                check_refused(self, InvalidText, value, function, value)
            for count in [1, 0, None]:
                check_refused(self, InvalidText, value, rank_values, value, count)
                check_refused(self, InvalidText, value, find_universal, value, count)
            for pattern in ["", "a", "aa"]:
                check_refused(self, InvalidText, value, find_unavoidable, pattern, value)

    def test_invalid_counts(self):
        for value in NOT_COUNTS:
            for text in [(), (1, 2, 1), (0,) * 401]:
                check_refused(self, InvalidCount, value, rank_values, text, value)
                check_refused(self, InvalidCount, value, find_universal, text, value)

    def test_invalid_patterns_first(self):
        for value in NOT_PATTERNS:
            for text in [(), None, (0,) * 401]:
                check_refused(self, InvalidPattern, value, find_unavoidable, value, text)


class TooLong(unittest.TestCase):

    def check_too_large(self, function, *given):
        with self.subTest(function=function.__name__):
            with self.assertRaises(TooLarge) as caught:
                function(*given)
            self.assertEqual(caught.exception.limit, 400)

    def test_at_401_letters(self):
        for text in [(0,) * 401, tuple(range(401)), tuple(range(4096))]:
            for function in [borders, rank, best_block]:
                self.check_too_large(function, text)
            # Before RankTooSmall, Avoidable and None.
            for count in [1, 12]:
                self.check_too_large(rank_values, text, count)
                self.check_too_large(find_universal, text, count)
            for pattern in ["", "a", "aa", "abacaba"]:
                self.check_too_large(find_unavoidable, pattern, text)

    def test_at_400_letters(self):
        text = tuple(range(399)) + (0,)
        self.assertEqual(borders(text), [1])
        self.assertEqual(rank(text), 2)
        self.assertEqual(best_block(text), (2, 0, 400))
        self.assertEqual(rank_values(text, 2), [(0,), tuple(range(1, 399))])
        self.assertEqual(find_universal(text, 2), (0, 400, [(0,), tuple(range(1, 399))]))
        self.assertEqual(find_unavoidable("aba", text), (0, {"a": (0,), "b": tuple(range(1, 399))}))
        self.assertEqual(find_unavoidable("", text), (0, {}))


class Borders(unittest.TestCase):

    def test_examples(self):
        for text, expected in [((), []), ((5,), []), ((5, 5), [1]), ((5, 6), []), ((1, 2, 1, 1, 2, 1), [1, 3]),
                               ((0,) * 400, list(range(1, 400))), ((0, 1) * 200, list(range(2, 400, 2)))]:
            with self.subTest(text=text[:6]):
                self.assertEqual(borders(text), expected)

    def test_against_a_plain_look(self):
        for text in SHORT_TEXTS + some_texts(41, 100, 60) + LONG_TEXTS:
            self.assertEqual(borders(text), plain_borders(text), text)


class Rank(unittest.TestCase):

    def test_examples(self):
        for text, expected in [((), 0), ((5,), 1), ((5, 5), 1), ((5, 5, 5), 2), ((1, 2, 1, 1, 2, 1), 2),
                               ((1, 2, 1, 3, 1, 2, 1), 3), ((0,) * 400, 8), ((0,) * 255, 8), ((0,) * 254, 7)]:
            with self.subTest(text=text[:6]):
                self.assertEqual(rank(text), expected)

    def test_universal_texts(self):
        for count in range(9):
            self.assertEqual(rank(universal(count)), count)

    def test_against_the_substitutions(self):
        # The rank is the greatest number of variables of a nested word that the text is a substitution of.
        for text in SHORT_TEXTS:
            expected = max(count for count in range(4) if slow_matches(nested("abc"[:count]), text) or count == 0)
            self.assertEqual(rank(text), expected, text)

    def test_against_the_borders(self):
        known = {}
        for text in SHORT_TEXTS + some_texts(42, 300, 80) + [text[:120] for text in LONG_TEXTS]:
            self.assertEqual(rank(text), plain_rank(text, known), text)

    def test_the_longest_border_is_the_best(self):
        known = {}
        for text in some_texts(43, 200, 60):
            sizes = [size for size in plain_borders(text) if 2 * size < len(text)]
            if sizes:
                self.assertEqual(rank(text), 1 + plain_rank(text[:max(sizes)], known))


class RankValues(unittest.TestCase):

    def check_values(self, text, count, values):
        self.assertIsInstance(values, list)
        self.assertEqual(len(values), count)
        for value in values:
            self.assertIsInstance(value, tuple)
            self.assertNotEqual(value, ())
        self.assertEqual(tuple(letter for number in universal(count) for letter in values[number]), text)

    def test_examples(self):
        self.assertEqual(rank_values((1, 2, 1, 1, 2, 1), 2), [(1,), (2, 1, 1, 2)])
        self.assertEqual(rank_values((1, 2, 1, 1, 2, 1), 1), [(1, 2, 1, 1, 2, 1)])
        self.assertEqual(rank_values((5,), 1), [(5,)])

    def test_each_count_up_to_the_rank(self):
        for text in SHORT_TEXTS + some_texts(44, 100, 100) + LONG_TEXTS:
            height = rank(text)
            for count in range(1, height + 1):
                self.check_values(text, count, rank_values(text, count))

    def test_rank_too_small(self):
        for text in [(), (1,), (1, 2), (1, 2, 1), (0,) * 400, universal(8), tuple(range(400))]:
            height = rank(text)
            for count in range(height + 1, 13):
                with self.assertRaises(RankTooSmall) as caught:
                    rank_values(text, count)
                self.assertEqual(caught.exception.rank, height)


class BestBlock(unittest.TestCase):

    def plain_blocks(self, text):
        """All blocks (rank, start, end), by start, then by end."""
        known = {}
        return [(plain_rank(text[start:end], known), start, end)
                for start in range(len(text)) for end in range(start + 1, len(text) + 1)]

    def test_examples(self):
        self.assertEqual(best_block(()), (0, 0, 0))
        self.assertEqual(best_block((7,)), (1, 0, 1))
        self.assertEqual(best_block((7, 8, 9)), (1, 0, 1))
        self.assertEqual(best_block((3, 1, 2, 1)), (2, 1, 4))
        self.assertEqual(best_block((0,) * 400), (8, 0, 255))
        self.assertEqual(best_block((9, 8) + universal(8)), (8, 2, 257))
        self.assertEqual(best_block(tuple(range(400))), (1, 0, 1))

    def test_against_a_plain_look_at_every_block(self):
        for text in SHORT_TEXTS[1:] + some_texts(45, 60, 24):
            blocks = self.plain_blocks(text)
            best = max(block[0] for block in blocks)
            self.assertEqual(best_block(text), [block for block in blocks if block[0] == best][0], text)

    def test_find_universal_against_the_same(self):
        for text in SHORT_TEXTS + some_texts(46, 60, 24):
            blocks = self.plain_blocks(text)
            for count in range(1, 13):
                hits = [block for block in blocks if block[0] >= count]
                found = find_universal(text, count)
                if not hits:
                    self.assertIsNone(found, (text, count))
                    continue
                self.assertIsInstance(found, tuple)
                start, end, values = found
                self.assertEqual((start, end), hits[0][1:], (text, count))
                RankValues.check_values(self, text[start:end], count, values)

    def test_find_universal_in_long_texts(self):
        for text in LONG_TEXTS:
            best, start, end = best_block(text)
            self.assertEqual(find_universal(text, best)[:2], (start, end))
            for count in range(1, best + 1):
                start, end, values = find_universal(text, count)
                RankValues.check_values(self, text[start:end], count, values)
            for count in range(best + 1, 13):
                self.assertIsNone(find_universal(text, count))

    def test_examples_of_find_universal(self):
        self.assertEqual(find_universal((3, 1, 2, 1), 2), (1, 4, [(1,), (2,)]))
        self.assertEqual(find_universal((3, 1, 2, 1), 1), (0, 1, [(3,)]))
        self.assertIsNone(find_universal((), 1))
        self.assertIsNone(find_universal((3, 1, 2, 1), 3))


class LengthBound(unittest.TestCase):

    def test_each_one(self):
        for letters in range(1, 5):
            second = (letters ** 1 + 1) * 2 - 1
            third = (letters ** second + 1) * (second + 1) - 1
            self.assertEqual([length_bound(count, letters) for count in (1, 2, 3)], [1, second, third])
        self.assertEqual(length_bound(3, 2), 197)
        self.assertEqual(length_bound(3, 4), 2621449)
        self.assertEqual(length_bound(3, 1), 7)

    def test_every_text_of_this_length(self):
        for letters in range(1, 5):
            for row in itertools.product(range(letters), repeat=min(length_bound(2, letters), 6)):
                text = row + (0,) * (length_bound(2, letters) - len(row))
                self.assertGreaterEqual(best_block(text)[0], 2)
        chance = random.Random(47)
        for _ in range(40):
            self.assertGreaterEqual(best_block(tuple(chance.choice((0, 1)) for _ in range(197)))[0], 3)

    def test_refusals(self):
        for value in [0, 4, -1, 10 ** 29, True, None, "1", (1,), [], {}]:
            for letters in [1, 5, None]:
                check_refused(self, InvalidCount, value, length_bound, value, letters)
        for value in [0, 5, -1, 10 ** 29, True, None, "1", (1,), [], {}]:
            check_refused(self, InvalidCount, value, length_bound, 3, value)


class FindUnavoidable(unittest.TestCase):

    PATTERNS = (short_patterns("abc", 3) + grown_patterns(48, 40, "wxyz") + some_patterns(49, 30, longest=9)
                + ["abcdefgh", "abacadaeafagah", "abacabadabacabaefgh", nested("edcba"), nested("edcb")])

    def test_examples(self):
        self.assertEqual(find_unavoidable("aba", (3, 1, 2, 1)), (1, {"a": (1,), "b": (2,)}))
        for text in [(), (1,), (3, 1, 2, 1), (9, 8) + universal(8), (0,) * 400]:
            self.assertEqual(find_unavoidable("", text), (0, {}))

    def test_places(self):
        texts = LONG_TEXTS[::4] + some_texts(50, 12, 70) + [(), (4,), (4, 4), (9, 8) + universal(4), universal(5)]
        heights = {text: best_block(text)[0] for text in texts}
        seen = 0
        for pattern in self.PATTERNS:
            steps = chain(pattern)
            if steps is None:
                continue
            for text in texts:
                best = heights[text]
                if best < len(steps):
                    with self.assertRaises(RankTooSmall) as caught:
                        find_unavoidable(pattern, text)
                    self.assertEqual(caught.exception.rank, best)
                    continue
                place = find_unavoidable(pattern, text)
                self.assertTrue(is_place(pattern, text, place), (pattern, text))
                self.assertEqual(list(place[1]), names_of(pattern))
                seen += 1
        self.assertGreater(seen, 500)

    def test_avoidable_first(self):
        for pattern in ["aa", "abab", "aabbccddeeffgghh", "abcdefgh" * 5]:
            for text in [(), (1,), (0,) * 400]:
                check_refused(self, Avoidable, pattern, find_unavoidable, pattern, text)

    def test_rank_too_small(self):
        for pattern, text, height in [("a", (), 0), ("aba", (1, 2), 1), ("ab", (1, 2), 1), ("aba", (), 0),
                                      (nested("abc"), (1, 2, 1, 3), 2), (nested("abcde"), universal(4), 4)]:
            with self.subTest(pattern=pattern):
                with self.assertRaises(RankTooSmall) as caught:
                    find_unavoidable(pattern, text)
                self.assertEqual(caught.exception.rank, height)

    def test_any_value(self):
        for value in MANY_KINDS:
            if not isinstance(value, str):
                check_refused(self, InvalidPattern, value, find_unavoidable, value, ())
            if not isinstance(value, tuple):
                check_refused(self, InvalidText, value, find_unavoidable, "aa", value)


if __name__ == "__main__":
    unittest.main()
