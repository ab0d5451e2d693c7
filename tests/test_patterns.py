"""Letters, texts, patterns, variable sets, the normal form, deleting and substituting: promises [2] to [6]."""

import copy
import inspect
import itertools
import unittest

from mustoccur import patterns
from mustoccur.errors import InvalidPattern, InvalidValues, InvalidVariables, TooLarge
from mustoccur.patterns import delete, is_pattern, is_text, normal, substitute, variables
from tests.samples import MANY_KINDS, NOT_PATTERNS, NOT_TEXTS, NOT_VARIABLE_SETS

LETTERS = "abcdefghijklmnopqrstuvwxyz"


class Interface(unittest.TestCase):

    def test_names_and_parameters(self):
        listed = {"is_pattern": ["value"], "is_text": ["value"], "variables": ["pattern"], "normal": ["pattern"],
                  "delete": ["pattern", "letters"], "substitute": ["pattern", "values"]}
        for name, parameters in listed.items():
            with self.subTest(name=name):
                function = getattr(patterns, name)
                self.assertEqual(list(inspect.signature(function).parameters), parameters)
                self.assertEqual(function.__module__, "mustoccur.patterns")

    def test_arguments_by_name(self):
        self.assertIs(is_pattern(value="ab"), True)
        self.assertIs(is_text(value=(1,)), True)
        self.assertEqual(variables(pattern="baab"), "ba")
        self.assertEqual(normal(pattern="baab"), "abba")
        self.assertEqual(delete(letters="b", pattern="baab"), "aa")
        self.assertEqual(substitute(values={"a": (7,)}, pattern="aa"), (7, 7))


class IsPattern(unittest.TestCase):

    def test_patterns(self):
        for value in ["", "a", "z", "aa", "zya", "a" * 40, "abcdefgh", "abcdefgh" * 5, "stuvwxyz" * 5]:
            with self.subTest(value=value):
                self.assertIs(is_pattern(value), True)

    def test_each_variable(self):
        for name in LETTERS:
            self.assertIs(is_pattern(name), True)

    def test_not_patterns(self):
        for value in NOT_PATTERNS:
            with self.subTest(value=value):
                self.assertIs(is_pattern(value), False)

    def test_every_other_character(self):
        for code in list(range(32, 127)) + [10]:
            if chr(code) not in LETTERS:
                with self.subTest(code=code):
                    self.assertIs(is_pattern(chr(code)), False)
                    self.assertIs(is_pattern("ab" + chr(code) + "a"), False)

    def test_length_and_number_of_variables(self):
        self.assertIs(is_pattern("ab" * 20), True)
        self.assertIs(is_pattern("ab" * 20 + "a"), False)
        self.assertIs(is_pattern("hgfedcba" * 4 + "aaaaaaaa"), True)
        self.assertIs(is_pattern("hgfedcba" * 4 + "aaaaaaai"), False)
        self.assertIs(is_pattern("abcdefghi"), False)
        self.assertIs(is_pattern("a" * 5000), False)

    def test_any_value(self):
        for value in MANY_KINDS:
            with self.subTest(value=value):
                expected = isinstance(value, str) and len(value) <= 40 and set(value) <= set(LETTERS)
                self.assertIs(is_pattern(value), expected)


class IsText(unittest.TestCase):

    def test_texts(self):
        for value in [(), (0,), (999999,), (0, 999999, 5), (1,) * 4096, tuple(range(4096))]:
            with self.subTest(size=len(value)):
                self.assertIs(is_text(value), True)

    def test_not_texts(self):
        for value in NOT_TEXTS:
            with self.subTest(value=str(value)[:40]):
                self.assertIs(is_text(value), False)

    def test_edges(self):
        self.assertIs(is_text((0,) * 4096), True)
        self.assertIs(is_text((0,) * 4097), False)
        self.assertIs(is_text(list((0,) * 5)), False)
        for letter, expected in [(0, True), (999999, True), (-1, False), (1000000, False), (True, False),
                                 (False, False), (10 ** 30 - 1, False), ("0", False), ((0,), False), (None, False)]:
            for value in [(letter,), (5, letter), (letter, 5), (5,) * 4095 + (letter,)]:
                with self.subTest(letter=letter, size=len(value)):
                    self.assertIs(is_text(value), expected)

    def test_any_value(self):
        for value in MANY_KINDS:
            with self.subTest(value=value):
                expected = isinstance(value, tuple) and all(
                    isinstance(x, int) and not isinstance(x, bool) and 0 <= x < 10 ** 6 for x in value)
                self.assertIs(is_text(value), expected)


class VariablesAndNormal(unittest.TestCase):

    def test_variables(self):
        for pattern, expected in [("", ""), ("a", "a"), ("zz", "z"), ("cabc", "cab"), ("abcab", "abc"),
                                  ("hgfedcba" * 5, "hgfedcba"), ("bab" * 13, "ba"), ("xaxbxa", "xab")]:
            with self.subTest(pattern=pattern):
                self.assertEqual(variables(pattern), expected)

    def test_normal(self):
        for pattern, expected in [("", ""), ("a", "a"), ("z", "a"), ("cabc", "abca"), ("zzy", "aab"), ("ba", "ab"),
                                  ("stuvwxyz" * 5, "abcdefgh" * 5), ("hgfedcbaa", "abcdefghh"), ("bcb", "aba")]:
            with self.subTest(pattern=pattern):
                self.assertEqual(normal(pattern), expected)

    def test_equal_normal_forms_are_renamings(self):
        rows = ["".join(row) for size in range(5) for row in itertools.product("dbz", repeat=size)]
        for first in rows:
            for second in rows:
                pairs = set(zip(first, second))
                renamed = (len(first) == len(second) and len(pairs) == len(set(first)) == len(set(second)))
                self.assertEqual(normal(first) == normal(second), renamed, (first, second))

    def test_normal_of_a_normal_form(self):
        for pattern in ["", "zyx", "qaqa", "hgfedcba" * 5]:
            self.assertEqual(normal(normal(pattern)), normal(pattern))

    def test_refusals(self):
        for function in [variables, normal]:
            for value in NOT_PATTERNS:
                with self.subTest(function=function.__name__, value=value):
                    with self.assertRaises(InvalidPattern) as caught:
                        function(value)
                    self.assertIs(caught.exception.value, value)


class Delete(unittest.TestCase):

    def test_delete(self):
        for pattern, letters, expected in [
                ("abcab", "b", "aca"), ("abcab", "", "abcab"), ("abcab", "abc", ""), ("abcab", "xyz", "abcab"),
                ("abcab", "bz", "aca"), ("abcab", LETTERS, ""), ("", "", ""), ("", "abc", ""), ("zaz", "a", "zz"),
                ("hgfedcba" * 5, "aceg", "hfdb" * 5), ("abcdefgh", "bcdefghijklm", "a"), ("cabc", "ac", "b")]:
            with self.subTest(pattern=pattern, letters=letters):
                self.assertEqual(delete(pattern, letters), expected)

    def test_invalid_pattern_first(self):
        for value in NOT_PATTERNS:
            for letters in ["a", "ba", None]:
                with self.subTest(value=value, letters=letters):
                    with self.assertRaises(InvalidPattern) as caught:
                        delete(value, letters)
                    self.assertIs(caught.exception.value, value)

    def test_invalid_variables(self):
        for value in NOT_VARIABLE_SETS:
            for pattern in ["", "abab"]:
                with self.subTest(value=value, pattern=pattern):
                    with self.assertRaises(InvalidVariables) as caught:
                        delete(pattern, value)
                    self.assertIs(caught.exception.value, value)

    def test_every_variable_set_of_three(self):
        for row in itertools.product("abcz", repeat=3):
            letters = "".join(row)
            if letters == "".join(sorted(set(letters))):
                self.assertEqual(delete("azbzc", letters), "".join(x for x in "azbzc" if x not in letters))
            else:
                self.assertRaises(InvalidVariables, delete, "azbzc", letters)


class Substitute(unittest.TestCase):

    def test_substitute(self):
        for pattern, values, expected in [
                ("", {}, ()), ("a", {"a": (5,)}, (5,)), ("aba", {"a": (1,), "b": (2, 3)}, (1, 2, 3, 1)),
                ("aba", {"b": (2, 3), "a": (1,)}, (1, 2, 3, 1)), ("zz", {"z": (0, 999999)}, (0, 999999) * 2),
                ("ba", {"a": (1,), "b": (1,)}, (1, 1)), ("a", {"a": (3,) * 4096}, (3,) * 4096)]:
            with self.subTest(pattern=pattern):
                result = substitute(pattern, values)
                self.assertEqual(result, expected)
                self.assertIsInstance(result, tuple)

    def test_wrong_values(self):
        wrong = [
            {}, {"a": (1,)}, {"b": (1,)}, {"a": (1,), "b": (2,), "c": (3,)}, {"a": (1,), "c": (2,)},
            {"a": (1,), "B": (2,)}, {"a": (1,), 1: (2,)}, {"a": (1,), ("b",): (2,)}, {"a": (1,), None: (2,)},
            {"a": (1,), "b": ()}, {"a": (), "b": (1,)}, {"a": [1], "b": (2,)}, {"a": (1,), "b": [2]},
            {"a": (1,), "b": (1000000,)}, {"a": (-1,), "b": (1,)}, {"a": (True,), "b": (1,)}, {"a": (1,), "b": "2"},
            {"a": (1,), "b": None}, {"a": (1,), "b": 2}, {"a": (1,), "b": ((2,),)}, {"a": (0,) * 4097, "b": (1,)},
            {"ab": (1,), "b": (2,)}, [("a", (1,)), ("b", (2,))], (("a", (1,)), ("b", (2,))), ["a", "b"], "ab", None]
        for value in wrong + MANY_KINDS:
            with self.subTest(value=str(value)[:60]):
                with self.assertRaises(InvalidValues) as caught:
                    substitute("aba", value)
                self.assertIs(caught.exception.value, value)

    def test_wrong_values_of_the_empty_pattern(self):
        for value in MANY_KINDS:
            if value != {}:
                with self.subTest(value=value):
                    with self.assertRaises(InvalidValues) as caught:
                        substitute("", value)
                    self.assertIs(caught.exception.value, value)

    def test_invalid_pattern_first(self):
        for value in NOT_PATTERNS:
            with self.subTest(value=value):
                with self.assertRaises(InvalidPattern) as caught:
                    substitute(value, None)
                self.assertIs(caught.exception.value, value)

    def test_too_large(self):
        self.assertEqual(substitute("ab", {"a": (1,) * 4095, "b": (2,)}), (1,) * 4095 + (2,))
        self.assertEqual(substitute("aa", {"a": (1, 2) * 1024}), (1, 2) * 2048)
        self.assertEqual(len(substitute("a" * 32, {"a": (1,) * 128})), 4096)
        for pattern, values in [("ab", {"a": (1,) * 4095, "b": (2, 3)}), ("ab", {"a": (1,), "b": (2,) * 4096}),
                                ("aab", {"a": (1, 2) * 1024, "b": (1,)}), ("aa", {"a": (1,) * 2049}),
                                ("a" * 40, {"a": (1,) * 4096})]:
            with self.subTest(pattern=pattern):
                with self.assertRaises(TooLarge) as caught:
                    substitute(pattern, values)
                self.assertEqual(caught.exception.limit, 4096)

    def test_invalid_values_before_too_large(self):
        self.assertRaises(InvalidValues, substitute, "ab", {"a": (1,) * 4096, "b": ()})
        self.assertRaises(InvalidValues, substitute, "ab", {"a": (1,) * 4096, "b": (1,), "c": (1,)})

    def test_arguments_stay(self):
        values = {"b": (2, 3), "a": (1,)}
        before = copy.deepcopy(list(values.items()))
        self.assertEqual(substitute("aba", values), substitute("aba", values))
        self.assertEqual(list(values.items()), before)
        wrong = {"a": [1], "b": (2,)}
        self.assertRaises(InvalidValues, substitute, "ab", wrong)
        self.assertEqual(wrong, {"a": [1], "b": (2,)})


if __name__ == "__main__":
    unittest.main()
