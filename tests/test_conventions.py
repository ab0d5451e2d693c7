"""Promise [2] for every function and method: names of parameters, new results, no change of arguments."""

import copy
import inspect
import random
import unittest

from mustoccur import (
    avoider, bounded, chains, descent, fragments, graph, matching, order, patterns, ranks, rules, universal)
from mustoccur.rules import Rules
from tests.checks import check_conventions, spoil

# For each module and name of the interface: parameters, and arguments that are accepted.
FUNCTIONS = {
    patterns: {
        "is_pattern": ["value"], "is_text": ["value"], "variables": ["pattern"], "normal": ["pattern"],
        "delete": ["pattern", "letters"], "substitute": ["pattern", "values"]},
    matching: {
        "matches": ["pattern", "text"], "find": ["pattern", "text"], "occurs": ["pattern", "text"],
        "is_place": ["pattern", "text", "value"]},
    graph: {
        "links": ["pattern"], "components": ["pattern"], "is_free": ["pattern", "letters"], "free_sets": ["pattern"],
        "greatest_free_sets": ["pattern"]},
    chains: {
        "chain": ["pattern"], "is_chain": ["pattern", "value"], "is_avoidable": ["pattern"], "is_locked": ["pattern"],
        "reached": ["pattern"], "is_refutation": ["pattern", "value"], "locked_patterns": ["pattern"],
        "delete_free": ["pattern", "letters"]},
    universal: {
        "universal": ["count"], "universal_letter": ["index"], "place_from_chain": ["pattern", "steps"],
        "chain_from_place": ["pattern", "count", "place"]},
    ranks: {
        "borders": ["text"], "rank": ["text"], "rank_values": ["text", "count"], "best_block": ["text"],
        "find_universal": ["text", "count"], "length_bound": ["count", "letters"],
        "find_unavoidable": ["pattern", "text"]},
    avoider: {
        "modulus": ["count"], "letter_block": ["count", "letter"], "avoiding_letter": ["count", "index"],
        "avoiding_text": ["count", "length", "start"], "letter_of": ["count", "index", "first", "second"]},
    descent: {
        "is_avoiding_place": ["pattern", "value"], "descend": ["pattern", "place"],
        "chain_from_avoiding": ["pattern", "place"]},
    bounded: {
        "blocked_texts": ["pattern", "letters", "longest"], "is_open": ["pattern", "letters", "longest", "text"],
        "count_open": ["pattern", "letters", "longest", "length"], "longest_open": ["pattern", "letters", "longest"]},
    order: {
        "find_in_pattern": ["pattern", "other"], "precedes": ["pattern", "other"], "are_alike": ["pattern", "other"],
        "compose": ["pattern", "other", "inner", "text", "outer"], "unavoidable_patterns": ["count"]},
    fragments: {
        "isolated": ["pattern"], "fragments": ["pattern"], "joined": ["formula"],
        "formula_is_free": ["formula", "letters"], "formula_delete": ["formula", "letters"],
        "formula_chain": ["formula"], "formula_is_avoidable": ["formula"]},
    rules: {"avoiding_rules": ["count"]},
}
METHODS = {
    rules.Rules: {
        "images": [], "apply": ["text"], "length": ["letter", "steps"], "letter_at": ["letter", "steps", "index"],
        "is_growing": ["letter"]},
}


def good_arguments():
    """New arguments, by the name of the parameter, that fit every function which has nothing else below."""
    return {
        "value": [(1, 2), {"a": [1]}], "pattern": "aba", "letters": "a", "values": {"a": (1,), "b": (2, 3)},
        "text": (1, 2, 1, 1, 2, 1), "count": 2, "index": 5, "steps": ["a", "b"], "place": (0, {"a": (0,), "b": (1,)}),
        "letter": 3, "length": 30, "start": 7, "other": "abcab", "formula": ["ab", "ba"], "longest": 1,
        "inner": (0, {"a": "a", "b": "bc"}), "outer": (0, {"b": (2,), "a": (1,), "c": (1,)})}


def special_arguments(name):
    """What differs for the function or method of this name."""
    return {
        "is_refutation": {"value": ["aba", "aa", "b"]}, "is_chain": {"value": ["a", "b"]},
        "is_place": {"value": (0, {"b": (2,), "a": (1,)})}, "length_bound": {"letters": 2},
        "letter_of": {"index": 2, "first": 17, "second": 22}, "compose": {"text": (1, 2, 1, 1, 2)},
        "is_avoiding_place": {"value": (0, {"a": (0,), "b": (7,)})},
        "descend": {"pattern": "a", "place": (3, {"a": (15,)})},
        "chain_from_avoiding": {"pattern": "a", "place": (3, {"a": (15,)})}, "blocked_texts": {"letters": 2},
        "is_open": {"letters": 2}, "count_open": {"letters": 2}, "longest_open": {"letters": 2},
        "apply": {"text": (0, 1, 2)}, "length": {"letter": 0, "steps": 9}, "letter_at": {"letter": 0, "steps": 9},
        "is_growing": {"letter": 2}}.get(name, {})


def arguments_of(name, parameters):
    """New arguments for this function or method, by name, in the order of the parameters."""
    all_of_them = {**good_arguments(), **special_arguments(name)}
    return {parameter: all_of_them[parameter] for parameter in parameters}


def objects():
    """New objects, with the names of their methods."""
    return [(Rules([(0, 1), (2, 0), (2, 2)]), METHODS[rules.Rules])]


def questions():
    """Every function and every method that changes nothing, with arguments: new objects and new arguments."""
    rows = [(getattr(module, name), name, parameters) for module, listed in FUNCTIONS.items()
            for name, parameters in listed.items()]
    for thing, listed in objects():
        rows += [(getattr(thing, name), name, parameters) for name, parameters in listed.items()]
    return [(function, arguments_of(name, parameters)) for function, name, parameters in rows]


def plain_answer(answer):
    """A copy of the answer that later changes of it do not reach."""
    return answer.images() if isinstance(answer, Rules) else copy.deepcopy(answer)


class EveryCall(unittest.TestCase):

    def test_parameters(self):
        for module, listed in FUNCTIONS.items():
            for name, parameters in listed.items():
                function = getattr(module, name)
                self.assertEqual(function.__module__, module.__name__)
                self.assertEqual(list(inspect.signature(function).parameters), parameters, name)
        for kind, listed in METHODS.items():
            for name, parameters in listed.items():
                self.assertEqual(list(inspect.signature(vars(kind)[name]).parameters)[1:], parameters, name)

    def test_by_position_and_by_name(self):
        for function, given in questions():
            named = {"start": given.pop("start")} if "start" in given else {}
            check_conventions(self, function, *given.values(), **named)

    def test_equal_questions_get_equal_answers(self):
        first = [plain_answer(function(**given)) for function, given in questions()]
        kept = questions()
        chance = random.Random(101)
        for _ in range(3):
            for at in chance.sample(range(len(kept)), len(kept)):
                function, given = kept[at]
                with self.subTest(function=function.__name__):
                    answer = function(**given)
                    self.assertEqual(plain_answer(answer), first[at])
                    spoil(answer)
                    spoil(list(given.values()))
                    kept[at] = (function, questions()[at][1])


if __name__ == "__main__":
    unittest.main()
