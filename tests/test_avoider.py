"""The letter blocks and the avoiding text: promises [2], [3] and [14] to [16]."""

import inspect
import random
import unittest

from mustoccur import avoider
from mustoccur.avoider import avoiding_letter, avoiding_text, letter_block, letter_of, modulus
from mustoccur.errors import InvalidCount, NoBlock
from mustoccur.matching import occurs
from tests.avoiding import MODULI, plain_avoiding, plain_block, plain_letter
from tests.checks import check_conventions, check_interface, check_refused
from tests.samples import MANY_KINDS

NOT_COUNTS = [0, 9, -1, 10 ** 29, True, False, None, "1", (1,), [1], {}]
NOT_INTEGERS = [True, False, None, "0", (0,), [], {}, "a", ((),), [[0]]]


class Interface(unittest.TestCase):

    def test_names_and_parameters(self):
        check_interface(self, avoider, {
            "modulus": ["count"], "letter_block": ["count", "letter"], "avoiding_letter": ["count", "index"],
            "avoiding_text": ["count", "length", "start"], "letter_of": ["count", "index", "first", "second"]})

    def test_start_by_name_alone(self):
        start = inspect.signature(avoiding_text).parameters["start"]
        self.assertEqual((start.kind, start.default), (inspect.Parameter.KEYWORD_ONLY, 0))
        self.assertRaises(TypeError, avoiding_text, 1, 5, 0)
        self.assertEqual(avoiding_text(1, 5, start=2), (10, 15, 20, 1, 6))
        self.assertEqual(avoiding_text(length=5, count=1), (0, 5, 10, 15, 20))

    def test_conventions(self):
        check_conventions(self, modulus, 3)
        check_conventions(self, letter_block, 3, 7)
        check_conventions(self, avoiding_letter, 3, 10 ** 9)
        check_conventions(self, avoiding_text, 3, 20, start=5)
        check_conventions(self, letter_of, 1, 2, 11, 16)

    def test_invalid_counts(self):
        for value in NOT_COUNTS:
            check_refused(self, InvalidCount, value, modulus, value)
            for other in [0, -1, None]:
                check_refused(self, InvalidCount, value, letter_block, value, other)
                check_refused(self, InvalidCount, value, avoiding_letter, value, other)
                check_refused(self, InvalidCount, value, avoiding_text, value, other, start=None)
                check_refused(self, InvalidCount, value, letter_of, value, other, None, None)


class Blocks(unittest.TestCase):

    def test_moduli(self):
        self.assertEqual([modulus(count) for count in range(1, 9)], [5, 7, 11, 11, 13, 17, 17, 19])

    def test_each_letter_block(self):
        self.assertEqual(letter_block(1, 5), (1, 6, 11, 16, 21))
        for count, q in MODULI.items():
            for letter in range(q * q):
                block = letter_block(count, letter)
                self.assertIsInstance(block, tuple)
                self.assertEqual(block, plain_block(count, letter))
                self.assertEqual(len(block), q)

    def test_letters_beyond_their_bounds(self):
        for count, q in MODULI.items():
            self.assertEqual(letter_block(count, 0), tuple(j * q for j in range(q)))
            self.assertEqual(letter_block(count, q * q - 1), tuple(j * q + (q - 1 - j) % q for j in range(q)))
            for value in NOT_INTEGERS + [-1, q * q, q * q + 1, 10 ** 29, -(10 ** 29)]:
                check_refused(self, InvalidCount, value, letter_block, count, value)

    def test_two_blocks_agree_at_no_more_than_one_index(self):
        for count, q in MODULI.items():
            blocks = [letter_block(count, letter) for letter in range(q * q)]
            for at, block in enumerate(blocks):
                for other in blocks[:at]:
                    self.assertLessEqual(sum(x == y for x, y in zip(block, other)), 1)


class AvoidingText(unittest.TestCase):

    def test_the_first_letters(self):
        self.assertEqual(avoiding_text(1, 7), (0, 5, 10, 15, 20, 1, 6))
        for count in MODULI:
            text = plain_avoiding(count, 4096, 0)
            self.assertEqual(avoiding_text(count, 4096), text)
            self.assertEqual(avoiding_text(count, 4096, start=0), text)
            for length in [0, 1, 2, 3, 18, 19, 20, 400, 4095]:
                self.assertEqual(avoiding_text(count, length), text[:length])
            self.assertEqual(tuple(avoiding_letter(count, index) for index in range(500)), text[:500])

    def test_every_start_near_the_first_letters(self):
        for count in MODULI:
            text = plain_avoiding(count, 200, 0)
            for start in range(100):
                for length in [0, 1, 2, 7, 40, 100]:
                    self.assertEqual(avoiding_text(count, length, start=start), text[start:start + length])

    def test_far_behind(self):
        chance = random.Random(51)
        for count, q in MODULI.items():
            starts = [10 ** 18, 10 ** 18 - 1, 10 ** 18 - 4096] + [chance.randrange(10 ** 18) for _ in range(5)]
            starts += [q ** power + more for power in range(2, 14) for more in (-1, 0, 1)]
            for start in starts:
                self.assertEqual(avoiding_text(count, 30, start=start), plain_avoiding(count, 30, start))
                self.assertEqual(avoiding_letter(count, start), plain_letter(count, start))
            self.assertEqual(avoiding_text(count, 4096, start=10 ** 18), plain_avoiding(count, 4096, 10 ** 18))
            self.assertEqual(avoiding_text(count, 0, start=10 ** 18), ())

    def test_each_block_is_that_of_its_letter(self):
        for count, q in MODULI.items():
            for index in [0, 1, 5, 10 ** 4, 10 ** 9, 10 ** 16]:
                self.assertEqual(avoiding_text(count, q, start=q * index),
                                 letter_block(count, avoiding_letter(count, index)))

    def test_it_avoids_short_patterns(self):
        for count, pattern in [(1, "aa"), (2, "aa"), (2, "aab"), (2, "abab"), (2, "abba"), (3, "abcbabc")]:
            self.assertIs(occurs(pattern, avoiding_text(count, 300)), False)
            self.assertIs(occurs(pattern, avoiding_text(count, 300, start=10 ** 17)), False)

    def test_refusals(self):
        for count in MODULI:
            for value in NOT_INTEGERS + [-1, 10 ** 18 + 1, 10 ** 29]:
                check_refused(self, InvalidCount, value, avoiding_letter, count, value)
                check_refused(self, InvalidCount, value, avoiding_text, count, 5, start=value)
                check_refused(self, InvalidCount, value, avoiding_text, count, 0, start=value)
            for value in NOT_INTEGERS + [-1, 4097, 10 ** 29]:
                check_refused(self, InvalidCount, value, avoiding_text, count, value)
                check_refused(self, InvalidCount, value, avoiding_text, count, value, start=-1)


class LetterOf(unittest.TestCase):

    def check_no_block(self, count, index, first, second):
        with self.subTest(count=count, index=index, first=first, second=second):
            with self.assertRaises(NoBlock) as caught:
                letter_of(count, index, first, second)
            self.assertIs(caught.exception.first, first)
            self.assertIs(caught.exception.second, second)

    def test_each_pair_of_each_block(self):
        self.assertEqual(letter_of(1, 2, 11, 16), 5)
        for count, q in MODULI.items():
            for letter in range(q * q):
                block = plain_block(count, letter)
                for index in range(q - 1):
                    self.assertEqual(letter_of(count, index, block[index], block[index + 1]), letter)

    def test_every_pair_of_letters(self):
        pairs = {}
        for letter in range(25):
            block = plain_block(1, letter)
            for index in range(4):
                pairs[index, block[index], block[index + 1]] = letter
        for index in range(4):
            for first in range(-3, 30):
                for second in range(-3, 30):
                    if (index, first, second) in pairs:
                        self.assertEqual(letter_of(1, index, first, second), pairs[index, first, second])
                    else:
                        self.assertRaises(NoBlock, letter_of, 1, index, first, second)

    def test_wrong_letters(self):
        for count, q in MODULI.items():
            self.check_no_block(count, 0, q, q)
            self.check_no_block(count, 0, 0, 2 * q)
            self.check_no_block(count, 0, -1, q)
            self.check_no_block(count, 1, 0, q)
            self.check_no_block(count, q - 2, (q - 2) * q, q * q)
            self.check_no_block(count, 0, 10 ** 29, 10 ** 29)

    def test_any_values(self):
        for value in MANY_KINDS:
            if value != 0 or isinstance(value, bool):
                if value != 1 or isinstance(value, bool):
                    self.check_no_block(1, 0, value, 5)
            self.check_no_block(1, 0, 0, value)
            self.check_no_block(1, 0, value, value)
            self.check_no_block(8, 3, value, [value])

    def test_a_bool_is_no_letter(self):
        self.assertEqual(letter_of(1, 0, 1, 6), 5)
        self.check_no_block(1, 0, True, 6)
        self.check_no_block(1, 0, False, 5)

    def test_indexes(self):
        for count, q in MODULI.items():
            self.assertEqual(letter_of(count, q - 2, (q - 2) * q, (q - 1) * q), 0)
            for value in NOT_INTEGERS + [-1, q - 1, q, 10 ** 29]:
                check_refused(self, InvalidCount, value, letter_of, count, value, 0, q)
                check_refused(self, InvalidCount, value, letter_of, count, value, None, None)


if __name__ == "__main__":
    unittest.main()
