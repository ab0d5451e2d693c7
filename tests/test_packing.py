"""Texts as byte values: promises [2], [3] and [4]."""

import random
import unittest

from mustoccur import packing
from mustoccur.errors import InvalidText, ParseError
from mustoccur.packing import pack, unpack
from tests.checks import check_conventions, check_interface, check_refused, offset_of
from tests.samples import MANY_KINDS, NOT_TEXTS

EDGES = [0, 1, 126, 127, 128, 129, 255, 256, 16255, 16256, 16383, 16384, 16385, 32767, 32768, 999998, 999999]
GREATEST = [189, 132, 63]


def plain_letter(letter):
    """The byte values of a letter, by its digits to base 128."""
    digits = [letter // 128 ** 2, letter // 128 % 128, letter % 128]
    while len(digits) > 1 and digits[0] == 0:
        digits = digits[1:]
    return tuple(digit + 128 for digit in digits[:-1]) + (digits[-1],)


def plain_offset(values):
    """The index of the first wrong member, the number of members if they end within a letter, or None."""
    letters = 0
    begun = []
    for index, member in enumerate(values):
        if type(member) is not int or member not in range(256):
            return index
        if not begun and (letters == 4096 or member == 128) or len(begun) == 2 and member >= 128:
            return index
        begun.append(member)
        if member < 128:
            if sum(value % 128 * 128 ** at for at, value in enumerate(reversed(begun))) > 999999:
                return index
            letters += 1
            begun = []
    return len(values) if begun else None


class Interface(unittest.TestCase):

    def test_names_and_parameters(self):
        check_interface(self, packing, {"pack": ["text"], "unpack": ["values"]})

    def test_conventions(self):
        check_conventions(self, pack, (5, 300, 999999))
        check_conventions(self, pack, ())
        for values in [(), [], [5, 130, 44], (5, 130, 44)]:
            check_conventions(self, unpack, values)


class Pack(unittest.TestCase):

    def test_examples(self):
        for text, values in [((), ()), ((0,), (0,)), ((5, 300), (5, 130, 44)), ((127,), (127,)), ((128,), (129, 0)),
                             ((16383,), (255, 127)), ((16384,), (129, 128, 0)), ((999999,), tuple(GREATEST))]:
            self.assertEqual(pack(text), values)
            self.assertEqual(unpack(values), text)
            self.assertEqual(unpack(list(values)), text)

    def test_there_and_back(self):
        chance = random.Random(131)
        texts = [(letter,) for letter in EDGES] + [tuple(EDGES), tuple(reversed(EDGES)), tuple(range(4096))]
        texts += [tuple(chance.randrange(1000000) for _ in range(chance.randint(0, 9))) for _ in range(300)]
        for text in texts:
            values = pack(text)
            self.assertIsInstance(values, tuple)
            self.assertEqual(values, sum((plain_letter(letter) for letter in text), ()))
            self.assertTrue(all(type(value) is int and 0 <= value <= 255 for value in values))
            for given in (values, list(values)):
                self.assertEqual(unpack(given), text)
                self.assertIsInstance(unpack(given), tuple)

    def test_not_texts(self):
        for value in NOT_TEXTS:
            check_refused(self, InvalidText, value, pack, value)


class Unpack(unittest.TestCase):

    def test_not_lists(self):
        for value in MANY_KINDS + [5, "5", b"", {0: 5}, None, 0]:
            if not isinstance(value, (list, tuple)):
                with self.assertRaises(ParseError) as caught:
                    unpack(value)
                self.assertEqual(caught.exception.offset, 0)

    def test_members_that_are_no_byte_values(self):
        for member in [-1, 256, 10 ** 29, True, False, None, "5", (5,), [5], {}, "", 1000]:
            for before in [[], [5], [5, 129], [130, 129], [0, 0, 0]]:
                for after in [[], [0], ["x"]]:
                    values = before + [member] + after
                    self.assertEqual(offset_of(unpack, values), len(before), values)
                    self.assertEqual(offset_of(unpack, tuple(values)), len(before), values)

    def test_each_wrong_member(self):
        for values, offset in [
                ([128], 0), ([128, 0], 0), ([5, 128], 1), ([129, 0, 128, 5], 2), ([129, 128, 0], None),
                ([129, 128, 128], 2), ([129, 129, 129], 2), ([129, 129, 129, 0], 2), ([255, 255, 255, 127], 2),
                ([129], 1), ([129, 129], 2), ([5, 129], 2), ([5, 130, 44, 255, 128], 5), (GREATEST, None),
                ([189, 132, 64], 2), ([189, 133, 0], 2), ([190, 128, 0], 2), ([255, 255, 127], 2),
                ([0, 189, 132, 64, 0], 3), ([189, 131, 127], None), ([255, 127], None), ([129, 0], None),
                ([188, 255, 127], None), ([0, 0, 255], 3)]:
            with self.subTest(values=values):
                self.assertEqual(offset_of(unpack, values), offset)
                self.assertEqual(offset_of(unpack, tuple(values)), offset)
                self.assertEqual(plain_offset(values), offset)

    def test_4096_and_4097_letters(self):
        for letter in [[0], [129, 0], GREATEST]:
            values = letter * 4096
            self.assertEqual(len(unpack(values)), 4096)
            for more in [[0], [128], [129], [5, 5], [129, 0], ["x"], [256]]:
                self.assertEqual(offset_of(unpack, values + more), len(values))
            for short in [letter * 4095 + [129], letter * 4095 + [129, 129]]:
                self.assertEqual(offset_of(unpack, short), len(short))
            self.assertEqual(offset_of(unpack, letter * 4095 + [129, 0, 129]), len(letter) * 4095 + 2)

    def test_against_a_plain_look(self):
        chance = random.Random(132)
        seen = {True: 0, False: 0}
        pools = [[0, 1, 63, 64, 127], [128, 129, 132, 133, 189, 190, 255], [256, -1, True, None, "1"]]
        for _ in range(8000):
            weights = chance.choice([(6, 4, 0), (6, 5, 1), (2, 5, 0)])
            values = [chance.choice(chance.choices(pools, weights)[0]) for _ in range(chance.randint(0, 8))]
            found = offset_of(unpack, chance.choice((list, tuple))(values))
            self.assertEqual(found, plain_offset(values), values)
            if found is None:
                self.assertEqual(pack(unpack(values)), tuple(values))
            seen[found is None] += 1
        self.assertGreater(min(seen.values()), 500)


if __name__ == "__main__":
    unittest.main()
