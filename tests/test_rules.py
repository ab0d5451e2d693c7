"""Rule sets: promises [2], [3], [14] and [15]."""

import copy
import itertools
import random
import unittest

from mustoccur import rules as module
from mustoccur.avoider import avoiding_letter, avoiding_text, letter_block, modulus
from mustoccur.errors import InvalidCount, InvalidRules, InvalidText, TooLarge
from mustoccur.rules import Rules, avoiding_rules
from tests.avoiding import MODULI, plain_block, plain_letter
from tests.checks import check_class, check_conventions, check_interface, check_refused
from tests.samples import MANY_KINDS, NOT_TEXTS, overlap_free

TURNS = [(0, 1), (1, 0)]
GROWTH = [(0, 1), (0,)]
CHAIN = [(1,), (2,), (2, 2, 0), (3,)]
WIDEST = [(399, 0) * 32] * 400
SETS = [[(0,)], [(0,) * 64], TURNS, GROWTH, CHAIN, [(2, 1), (1,), (0, 0, 2)], [(1, 1, 1), (0,)], [(1,), (0,)]]
# Too few and too many images; images that are no texts, empty or too long; letters without an image.
NOT_IMAGES = MANY_KINDS + [
    [()], [(0,), ()], [(0,) * 65], [(0,), (0,) * 65], [(1,)], [(0,), (2,)], [(0, 1)], [(0,), (1, 0, 2)], [[0]],
    [(0,), [0]], [(0,), None], [(True,)], [(0, False), (0,)], [(-1,)], [("0",)], [(0,), "0"], [((0,),)], [(0,), 0],
    {0: (0,)}, {"a": (0,)}, "0", (0,), ((0,), 1), [(0,)] * 401, ((0,),) * 401, [(999999,)], [(1000000,)], [(0,) * 4097],
    [(400,)] * 400, [(0,)] * 399 + [(400,)], [(0,)] * 399 + [()]]
NOT_STEPS = [401, -1, 10 ** 29, True, False, None, "1", (1,), [1], {}, 402, ((),)]


def expand(images, text, steps):
    """The text after so many replacements, plainly."""
    for _ in range(steps):
        text = tuple(new for letter in text for new in images[letter])
    return text


def some_sets(seed, many):
    """Images of many forms, the same ones in each run."""
    chance = random.Random(seed)
    found = []
    for _ in range(many):
        size = chance.randint(1, 6)
        found.append([tuple(chance.randrange(size) for _ in range(chance.choice((1, 1, 2, 3)))) for _ in range(size)])
    return found


class Interface(unittest.TestCase):

    def test_names_and_parameters(self):
        check_interface(self, module, {"avoiding_rules": ["count"]})
        check_class(self, module, "Rules", {
            "__init__": ["images"], "images": [], "apply": ["text"], "length": ["letter", "steps"],
            "letter_at": ["letter", "steps", "index"], "is_growing": ["letter"]})

    def test_conventions(self):
        for images in SETS:
            check_conventions(self, Rules, images)
            check_conventions(self, Rules, tuple(images))
            rules = Rules(images)
            check_conventions(self, rules.images)
            check_conventions(self, rules.apply, (0, 0))
            check_conventions(self, rules.apply, ())
            check_conventions(self, rules.length, 0, 3)
            check_conventions(self, rules.letter_at, 0, 3, 0)
            check_conventions(self, rules.is_growing, 0)
        check_conventions(self, avoiding_rules, 1)

    def test_each_object_is_new(self):
        self.assertIsNot(avoiding_rules(2), avoiding_rules(2))
        self.assertIsNot(Rules(TURNS), Rules(TURNS))


class Images(unittest.TestCase):

    def test_lists_and_tuples(self):
        for images in SETS + some_sets(91, 30) + [WIDEST]:
            for given in (list(images), tuple(images)):
                found = Rules(given).images()
                self.assertIsInstance(found, list)
                self.assertEqual(found, images)

    def test_one_and_400_images_of_one_and_64_letters(self):
        for count, size in itertools.product((1, 2, 399, 400), (1, 2, 63, 64)):
            images = [(count - 1,) * size] * count
            self.assertEqual(Rules(images).images(), images)
            self.assertEqual(Rules(tuple(images)).apply((count - 1, 0)), (count - 1,) * (2 * size))

    def test_what_is_not_images(self):
        for value in NOT_IMAGES:
            check_refused(self, InvalidRules, value, Rules, value)
            check_refused(self, InvalidRules, value, Rules, images=value)

    def test_what_was_passed_may_be_changed(self):
        images = [(0, 1), (1, 0)]
        rules = Rules(images)
        images[0] = (0,)
        images.append((7,))
        self.assertEqual(rules.images(), [(0, 1), (1, 0)])
        self.assertEqual(rules.apply((0, 1)), (0, 1, 1, 0))
        self.assertEqual(rules.length(1, 2), 4)
        self.assertTrue(rules == Rules([(0, 1), (1, 0)]))

    def test_what_was_returned_may_be_changed(self):
        rules = Rules(TURNS)
        found = rules.images()
        found[0] = (0,)
        found.clear()
        self.assertEqual(rules.images(), TURNS)
        self.assertEqual(rules.apply((0,)), (0, 1))
        self.assertTrue(rules == Rules(TURNS))


class Equality(unittest.TestCase):

    def test_rule_sets(self):
        sets = SETS + [[(0,), (0,)], [(0,), (1,)], [(0, 0)], [(1, 0), (0, 1)]]
        for first, second in itertools.product(sets, repeat=2):
            for left, right in itertools.product((list, tuple), repeat=2):
                one, other = Rules(left(first)), Rules(right(second))
                self.assertIs(one == other, first == second)
                self.assertIs(one != other, first != second)

    def test_with_itself(self):
        rules = Rules(TURNS)
        self.assertIs(rules == rules, True)
        self.assertIs(rules != rules, False)
        self.assertIs(rules == copy.deepcopy(rules), True)

    def test_other_values(self):
        rules = Rules(TURNS)
        for value in MANY_KINDS + [TURNS, tuple(TURNS), Rules, InvalidRules(1), rules.images(), {0: rules}, [rules]]:
            self.assertIs(rules == value, False)
            self.assertIs(value == rules, False)
            self.assertIs(rules != value, True)
            self.assertIs(value != rules, True)


class Apply(unittest.TestCase):

    def test_examples(self):
        self.assertEqual(Rules(TURNS).apply(()), ())
        self.assertEqual(Rules(TURNS).apply((0, 1, 1)), (0, 1, 1, 0, 1, 0))
        self.assertEqual(Rules(CHAIN).apply((0, 1, 2, 3)), (1, 2, 2, 2, 0, 3))
        self.assertEqual(avoiding_rules(1).apply((5,)), (1, 6, 11, 16, 21))

    def test_against_plain_replacing(self):
        chance = random.Random(92)
        for images in SETS + some_sets(93, 60):
            rules = Rules(images)
            for _ in range(5):
                text = tuple(chance.randrange(len(images)) for _ in range(chance.randint(0, 9)))
                self.assertEqual(rules.apply(text), expand(images, text, 1))

    def test_what_is_not_a_text(self):
        for value in NOT_TEXTS + [kind for kind in MANY_KINDS if not isinstance(kind, tuple)]:
            for images in [[(0,)], TURNS, WIDEST]:
                check_refused(self, InvalidText, value, Rules(images).apply, value)

    def test_letters_without_an_image(self):
        for images, value in [([(0,)], (1,)), ([(0,)], (0, 0, 1)), (TURNS, (2,)), (TURNS, (1, 999999)),
                              (WIDEST, (400,)), ([(0,)], (0,) * 4095 + (1,))]:
            check_refused(self, InvalidText, value, Rules(images).apply, value)

    def test_4096_letters(self):
        self.assertEqual(Rules(TURNS).apply((0, 1) * 1024), (0, 1, 1, 0) * 1024)
        self.assertEqual(Rules([(0,)]).apply((0,) * 4096), (0,) * 4096)
        self.assertEqual(Rules([(0,) * 64]).apply((0,) * 64), (0,) * 4096)
        self.assertEqual(len(Rules(GROWTH).apply((0,) * 2047 + (1,) * 2)), 4096)

    def test_4097_letters(self):
        for images, text in [(TURNS, (0,) * 2049), ([(0,) * 64], (0,) * 65), (GROWTH, (0,) * 2047 + (1,) * 3),
                             (GROWTH, (0,) * 2048 + (1,)), ([(0, 0)], (0,) * 4096)]:
            with self.assertRaises(TooLarge) as caught:
                Rules(images).apply(text)
            self.assertEqual(caught.exception.limit, 4096)

    def test_the_text_before_the_size(self):
        for value in [(0,) * 2049 + (2,), (2,) + (0,) * 4095]:
            check_refused(self, InvalidText, value, Rules(TURNS).apply, value)


class Lengths(unittest.TestCase):

    def test_examples(self):
        self.assertEqual(Rules(GROWTH).length(0, 10), 144)
        self.assertEqual(Rules(TURNS).length(0, 400), 2 ** 400)
        self.assertEqual(Rules([(0,) * 64]).length(0, 400), 64 ** 400)
        self.assertEqual(Rules([(0,)]).length(0, 400), 1)
        self.assertEqual(Rules(WIDEST).length(399, 3), 64 ** 3)
        for images in SETS:
            self.assertEqual(Rules(images).length(0, 0), 1)

    def test_against_plain_replacing(self):
        for images in SETS + some_sets(94, 60):
            rules = Rules(images)
            for letter in range(len(images)):
                text = (letter,)
                for steps in range(7):
                    if len(text) <= 4000:
                        self.assertEqual(rules.length(letter, steps), len(text), (images, letter, steps))
                        text = expand(images, text, 1)

    def test_fibonacci(self):
        rules = Rules(GROWTH)
        low, high = 1, 2
        for steps in range(1, 401):
            if steps % 50 == 0 or steps < 20:
                self.assertEqual((rules.length(1, steps), rules.length(0, steps)), (low, high))
            low, high = high, low + high

    def test_refusals(self):
        for images in SETS:
            rules = Rules(images)
            for value in MANY_KINDS + [len(images), len(images) + 1, 400]:
                if isinstance(value, int) and not isinstance(value, bool) and 0 <= value < len(images):
                    continue
                check_refused(self, InvalidCount, value, rules.is_growing, value)
                for steps, index in itertools.product([0, 401, None], [0, -1, None]):
                    check_refused(self, InvalidCount, value, rules.length, value, steps)
                    check_refused(self, InvalidCount, value, rules.letter_at, value, steps, index)
            for value in NOT_STEPS:
                check_refused(self, InvalidCount, value, rules.length, 0, value)
                for index in [0, -1, None, "x"]:
                    check_refused(self, InvalidCount, value, rules.letter_at, 0, value, index)


class LetterAt(unittest.TestCase):

    def test_examples(self):
        self.assertEqual(Rules(TURNS).letter_at(0, 3, 5), 0)
        for images in SETS:
            for letter in range(len(images)):
                self.assertEqual(Rules(images).letter_at(letter, 0, 0), letter)

    def test_against_plain_replacing(self):
        for images in SETS + some_sets(95, 60):
            rules = Rules(images)
            for letter in range(len(images)):
                for steps in range(5):
                    text = expand(images, (letter,), steps)
                    if len(text) > 100:
                        break
                    found = tuple(rules.letter_at(letter, steps, index) for index in range(len(text)))
                    self.assertEqual(found, text, (images, letter, steps))

    def test_400_steps(self):
        rules = Rules(TURNS)
        chance = random.Random(96)
        indexes = [0, 1, 2, 2 ** 399 - 1, 2 ** 399, 2 ** 400 - 1, 10 ** 29, 10 ** 100]
        indexes += [chance.randrange(2 ** 400) for _ in range(20)]
        for index in indexes:
            self.assertEqual(rules.letter_at(0, 400, index), bin(index).count("1") % 2)
            self.assertEqual(rules.letter_at(1, 400, index), 1 - bin(index).count("1") % 2)
        self.assertEqual(tuple(rules.letter_at(0, 400, index) for index in range(50)), overlap_free(50))
        self.assertEqual(Rules([(1,), (2,), (0,)]).letter_at(0, 400, 0), 1)

    def test_indexes_at_the_end(self):
        for images in SETS + [WIDEST]:
            rules = Rules(images)
            for steps in ([0, 1, 2, 5, 400] if len(images) < 400 else [0, 1, 3]):
                size = rules.length(0, steps)
                letter = 0
                for _ in range(steps):
                    letter = images[letter][-1]
                self.assertEqual(rules.letter_at(0, steps, size - 1), letter)
                for value in [size, size + 1, -1, -size, 10 ** 29 * size, True, False, None, "0", (0,), [], {}, [[0]]]:
                    check_refused(self, InvalidCount, value, rules.letter_at, 0, steps, value)


class Growing(unittest.TestCase):

    def test_each_letter(self):
        for images, expected in [(TURNS, [True, True]), (GROWTH, [True, False]), ([(0,)], [False]),
                                 ([(0, 0)], [True]), ([(1, 0), (0, 1)], [False, False]),
                                 ([(0,), (1, 0)], [False, True]),
                                 (CHAIN, [False, False, True, False]), ([(0,) * 64], [True]),
                                 (WIDEST, [False] * 399 + [True])]:
            rules = Rules(images)
            self.assertEqual([rules.is_growing(letter) for letter in range(len(images))], expected)

    def test_what_a_growing_letter_becomes_begins_with_it_again(self):
        for images in some_sets(97, 60):
            rules = Rules(images)
            for letter in range(len(images)):
                if rules.is_growing(letter):
                    text = expand(images, (letter,), 4)
                    self.assertEqual(expand(images, (letter,), 5)[:len(text)], text)
                    self.assertIs(rules.is_growing(letter), True)


class Avoiding(unittest.TestCase):

    def test_each_count(self):
        for count, q in MODULI.items():
            rules = avoiding_rules(count)
            self.assertIs(type(rules), Rules)
            self.assertEqual(modulus(count), q)
            self.assertEqual(rules.images(), [plain_block(count, letter) for letter in range(q * q)])
            self.assertEqual(rules.images(), [letter_block(count, letter) for letter in range(q * q)])
            self.assertTrue(rules == avoiding_rules(count))
            self.assertTrue(rules == Rules([letter_block(count, letter) for letter in range(q * q)]))
            self.assertIs(rules.is_growing(0), True)
            self.assertEqual(rules.length(0, 5), q ** 5)

    def test_the_avoiding_text(self):
        chance = random.Random(98)
        for count, q in MODULI.items():
            rules = avoiding_rules(count)
            for index in [0, 1, q - 1, q, q * q - 1, q ** 3 - 1] + [chance.randrange(q ** 4) for _ in range(10)]:
                self.assertEqual(rules.letter_at(0, 4, index), avoiding_letter(count, index), (count, index))
            for index in [10 ** 18, 10 ** 18 - 1, chance.randrange(10 ** 18)]:
                self.assertEqual(rules.letter_at(0, 26, index), avoiding_letter(count, index))
                self.assertEqual(rules.letter_at(0, 26, index), plain_letter(count, index))
            self.assertEqual(rules.apply(avoiding_text(count, 200)), avoiding_text(count, 200 * q))

    def test_other_counts(self):
        for value in MANY_KINDS + [0, 9, -1, 10 ** 29]:
            if value != 1 or value is True:
                check_refused(self, InvalidCount, value, avoiding_rules, value)


if __name__ == "__main__":
    unittest.main()
