"""Places in the avoiding text and the descent: promises [2], [3] and [17]."""

import itertools
import unittest

from mustoccur import descent
from mustoccur.descent import chain_from_avoiding, descend, is_avoiding_place
from mustoccur.errors import InvalidPattern, InvalidPlace
from tests.avoiding import MODULI, filled, lift, many_places, plain_avoiding, plain_is_avoiding_place, repeats
from tests.checks import check_conventions, check_interface, check_refused
from tests.plain import plain_is_chain, plain_is_free, without
from tests.samples import MANY_KINDS, NOT_PATTERNS, names_of

PLACES = many_places(61, 1500)


class Interface(unittest.TestCase):

    def test_names_and_parameters(self):
        check_interface(self, descent, {
            "is_avoiding_place": ["pattern", "value"], "descend": ["pattern", "place"],
            "chain_from_avoiding": ["pattern", "place"]})

    def test_conventions(self):
        for count, pattern, place in PLACES[:60]:
            for function in [is_avoiding_place, descend, chain_from_avoiding]:
                check_conventions(self, function, pattern, place)
        check_conventions(self, is_avoiding_place, "aba", [1, {"a": [1]}])

    def test_invalid_patterns(self):
        for value in NOT_PATTERNS + [""]:
            for other in [None, (0, {}), (0, {"a": (0,)})]:
                for function in [is_avoiding_place, descend, chain_from_avoiding]:
                    check_refused(self, InvalidPattern, value, function, value, other)


class IsAvoidingPlace(unittest.TestCase):

    def test_places(self):
        for count, pattern, place in PLACES:
            self.assertTrue(plain_is_avoiding_place(count, pattern, place))
            self.assertIs(is_avoiding_place(pattern, place), True, (pattern, place))
            backwards = dict(reversed(list(place[1].items())))
            self.assertIs(is_avoiding_place(pattern, (place[0], backwards)), True, (pattern, place))

    def test_changed_places(self):
        for count, pattern, (start, values) in PLACES:
            name = names_of(pattern)[-1]
            for value in [
                    (start + 1, values), (start - 1, values), [start, values], (start, values, 0), (start,), values,
                    (str(start), values), (start, list(values.items())), (start, {**values, "z": (0,)}),
                    (start, {**values, name: ()}), (start, {**values, name: list(values[name])}),
                    (start, {**values, name: values[name] + (0,) + values[name]}),
                    (start, {**values, name: values[name][:-1] + (values[name][-1] + 1,)}),
                    (start, {each: values[each] for each in values if each != name})]:
                self.assertIs(is_avoiding_place(pattern, value), False, (pattern, value))

    def test_any_value(self):
        for value in MANY_KINDS:
            with self.subTest(value=value):
                self.assertIs(is_avoiding_place("a", value), False)
                self.assertIs(is_avoiding_place("aba", value), False)

    def test_a_bool_is_no_start(self):
        self.assertIs(is_avoiding_place("a", (0, {"a": (0,)})), True)
        self.assertIs(is_avoiding_place("a", (False, {"a": (0,)})), False)
        self.assertIs(is_avoiding_place("a", (1, {"a": (5,)})), True)
        self.assertIs(is_avoiding_place("a", (True, {"a": (5,)})), False)

    def test_start_and_length(self):
        far = 10 ** 18
        self.assertIs(is_avoiding_place("a", (far, {"a": plain_avoiding(1, 9, far)})), True)
        self.assertIs(is_avoiding_place("a", (far + 1, {"a": plain_avoiding(1, 9, far + 1)})), False)
        self.assertIs(is_avoiding_place("a", (far, {"a": plain_avoiding(1, 4096, far)})), True)
        whole = plain_avoiding(2, 4097, 3)
        self.assertIs(is_avoiding_place("ab", (3, {"a": whole[:4000], "b": whole[4000:4096]})), True)
        self.assertIs(is_avoiding_place("ab", (3, {"a": whole[:4000], "b": whole[4000:]})), False)
        self.assertIs(is_avoiding_place("a" * 40, (0, {"a": whole[:4096]})), False)

    def test_the_number_of_variables_counts(self):
        text = plain_avoiding(2, 10, 0)
        self.assertIs(is_avoiding_place("ab", (0, {"a": text[:4], "b": text[4:]})), True)
        self.assertIs(is_avoiding_place("a", (0, {"a": text})), False)
        self.assertIs(is_avoiding_place("abc", (0, {"a": text[:4], "b": text[4:5], "c": text[5:]})), False)
        self.assertIs(is_avoiding_place("xy", (0, {"x": text[:4], "y": text[4:]})), True)

    def test_avoidable_patterns(self):
        text = plain_avoiding(1, 60, 0)
        for start in range(40):
            for size in range(1, 10):
                self.assertIs(is_avoiding_place("aa", (start, {"a": text[start:start + size]})), False)


class Descend(unittest.TestCase):

    def check_descent(self, count, pattern, place, found):
        """Each part of what descend returns, as the interface says it."""
        self.assertIsInstance(found, tuple)
        steps, rest, lower = found
        self.assertIsInstance(steps, list)
        left = pattern
        for letters in steps:
            self.assertNotEqual(letters, "")
            self.assertEqual(letters, "".join(sorted(set(letters) & set(left))))
            self.assertTrue(plain_is_free(left, letters), (pattern, place, steps))
            left = without(left, letters)
        self.assertEqual(rest, left)
        if rest == "":
            self.assertEqual(lower, (0, {}))
            return
        self.assertIsInstance(lower, tuple)
        self.assertEqual(list(lower[1]), names_of(rest))
        self.assertTrue(all(isinstance(value, tuple) for value in lower[1].values()))
        self.assertTrue(plain_is_avoiding_place(count, rest, lower), (pattern, place, found))
        self.assertLess(len(filled(rest, lower[1])), len(filled(pattern, place[1])))

    def test_examples(self):
        self.assertEqual(descend("a", (3, {"a": (15,)})), (["a"], "", (0, {})))
        self.assertEqual(chain_from_avoiding("a", (3, {"a": (15,)})), ["a"])

    def test_many_places(self):
        emptied = 0
        untouched = 0
        between = 0
        for count, pattern, place in PLACES:
            found = descend(pattern, place)
            self.check_descent(count, pattern, place, found)
            emptied += found[1] == ""
            untouched += found[1] == pattern
            between += found[1] not in ("", pattern)
        # Each kind of result is among them.
        self.assertGreater(min(emptied, untouched, between), 50)

    def test_every_short_block(self):
        for start in list(range(30)) + [10 ** 18 - 3, 10 ** 18]:
            for size in range(1, 14):
                place = (start, {"a": plain_avoiding(1, size, start)})
                self.check_descent(1, "a", place, descend("a", place))
                self.assertEqual(chain_from_avoiding("a", place), ["a"])

    def test_every_cut_of_short_blocks(self):
        for start in list(range(0, 60, 5)) + list(range(10 ** 9, 10 ** 9 + 8)):
            text = plain_avoiding(2, 16, start)
            for end in range(2, 17):
                for at in range(1, end):
                    place = (start, {"a": text[:at], "b": text[at:end]})
                    self.check_descent(2, "ab", place, descend("ab", place))
                    self.assertTrue(plain_is_chain("ab", chain_from_avoiding("ab", place)))

    def test_every_repeat(self):
        for start in [0, 7, 10 ** 12]:
            for place in repeats(2, start, 80)[:150]:
                for other in [place, lift(2, place)]:
                    self.check_descent(2, "aba", other, descend("aba", other))
                    self.assertEqual(chain_from_avoiding("aba", other), ["a", "b"])

    def test_the_order_of_the_steps(self):
        # Two ways to cut the same value: the steps are free only if what starts later in the blocks goes first.
        for count, start in [(6, 0), (6, 10 ** 12), (7, 10 ** 9), (8, 10 ** 12)]:
            for place in repeats(count, start, 6 * MODULI[count])[:2]:
                low, values = lift(count, (place[0], {"a": place[1]["a"][:1], "b": place[1]["a"][1:] + place[1]["b"]}))
                whole = values["a"]
                for at, other, last in itertools.combinations(range(1, MODULI[count] - 2), 3):
                    parts = {"a": whole[:at], "b": whole[at:other], "c": whole[other:last], "d": whole[last:],
                             "e": values["b"], "f": whole[at:last]}
                    for pattern in ["abcdeafd", "afdeabcd"]:
                        self.check_cut(count, pattern, low, parts)

    def check_cut(self, count, pattern, start, values):
        for name in "gh"[:count - 6]:
            pattern = pattern.replace("e", "e" + name)
            values = {**values, "e": values["e"][:-1], name: values["e"][-1:]}
        self.check_descent(count, pattern, (start, values), descend(pattern, (start, values)))
        self.assertTrue(plain_is_chain(pattern, chain_from_avoiding(pattern, (start, values))))

    def test_chains(self):
        for count, pattern, place in PLACES:
            steps = chain_from_avoiding(pattern, place)
            self.assertIsInstance(steps, list)
            self.assertTrue(plain_is_chain(pattern, steps), (pattern, place, steps))

    def test_the_longest_blocks(self):
        for count in range(1, 9):
            for start in [0, 5, 10 ** 18]:
                text = plain_avoiding(count, 4096, start)
                names = "hgfedcba"[:count]
                for cuts in [list(range(count)) + [4096], [at * 500 for at in range(count)] + [4096],
                             [0] + list(range(4097 - count, 4097))]:
                    place = (start, {name: text[low:high] for name, low, high in zip(names, cuts, cuts[1:])})
                    self.check_descent(count, names, place, descend(names, place))
                    self.assertTrue(plain_is_chain(names, chain_from_avoiding(names, place)))

    def test_invalid_places(self):
        for function in [descend, chain_from_avoiding]:
            for value in MANY_KINDS:
                check_refused(self, InvalidPlace, value, function, "aba", value)
            for count, pattern, (start, values) in PLACES[:40]:
                for value in [(start + 1, values), [start, values], (start, {**values, "z": (1,)}), (start, {})]:
                    check_refused(self, InvalidPlace, value, function, pattern, value)
            for pattern, value in [("aa", (0, {"a": (0,)})), ("a", (-1, {"a": (0,)})), ("a", (False, {"a": (0,)})),
                                   ("a", (10 ** 18 + 1, {"a": plain_avoiding(1, 1, 10 ** 18 + 1)}))]:
                check_refused(self, InvalidPlace, value, function, pattern, value)


if __name__ == "__main__":
    unittest.main()
