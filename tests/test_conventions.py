"""Promises [2] and [3] over the whole program: parameters, new results, no change of arguments, errors, equality."""

import copy
import inspect
import random
import unittest

from mustoccur import (
    avoider, bounded, chains, console, descent, errors, fragments, graph, matching, notation, order, packing, patterns,
    ranks, rules, universal, workspace)
from mustoccur.console import Console
from mustoccur.rules import Rules
from mustoccur.workspace import Workspace
from tests.checks import check_conventions, spoil
from tests.samples import MANY_KINDS

# For each module and function of the interface, and for each class and method that changes nothing: the parameters.
FUNCTIONS = {
    patterns: {
        "is_pattern": ["value"], "is_text": ["value"], "variables": ["pattern"], "normal": ["pattern"],
        "delete": ["pattern", "letters"], "substitute": ["pattern", "values"]},
    matching: {
        "matches": ["pattern", "text"], "find": ["pattern", "text"], "occurs": ["pattern", "text"],
        "is_place": ["pattern", "text", "value"]},
    graph: {
        "links": ["pattern"], "components": ["pattern"], "is_free": ["pattern", "letters"], "free_sets": ["pattern"],
        "greatest_free_sets": ["pattern"]},
    chains: {
        "chain": ["pattern"], "is_chain": ["pattern", "value"], "is_avoidable": ["pattern"], "is_locked": ["pattern"],
        "reached": ["pattern"], "is_refutation": ["pattern", "value"], "locked_patterns": ["pattern"],
        "delete_free": ["pattern", "letters"]},
    universal: {
        "universal": ["count"], "universal_letter": ["index"], "place_from_chain": ["pattern", "steps"],
        "chain_from_place": ["pattern", "count", "place"]},
    ranks: {
        "borders": ["text"], "rank": ["text"], "rank_values": ["text", "count"], "best_block": ["text"],
        "find_universal": ["text", "count"], "length_bound": ["count", "letters"],
        "find_unavoidable": ["pattern", "text"]},
    avoider: {
        "modulus": ["count"], "letter_block": ["count", "letter"], "avoiding_letter": ["count", "index"],
        "avoiding_text": ["count", "length", "start"], "letter_of": ["count", "index", "first", "second"]},
    descent: {
        "is_avoiding_place": ["pattern", "value"], "descend": ["pattern", "place"],
        "chain_from_avoiding": ["pattern", "place"]},
    bounded: {
        "blocked_texts": ["pattern", "letters", "longest"], "is_open": ["pattern", "letters", "longest", "text"],
        "count_open": ["pattern", "letters", "longest", "length"], "longest_open": ["pattern", "letters", "longest"]},
    order: {
        "find_in_pattern": ["pattern", "other"], "precedes": ["pattern", "other"], "are_alike": ["pattern", "other"],
        "compose": ["pattern", "other", "inner", "text", "outer"], "unavoidable_patterns": ["count"]},
    fragments: {
        "isolated": ["pattern"], "fragments": ["pattern"], "joined": ["formula"],
        "formula_is_free": ["formula", "letters"], "formula_delete": ["formula", "letters"],
        "formula_chain": ["formula"], "formula_is_avoidable": ["formula"]},
    rules: {"avoiding_rules": ["count"], "Rules": ["images"]},
    workspace: {"Workspace": []},
    notation: {
        "format_text": ["text"], "parse_text": ["line"], "format_place": ["place"], "parse_place": ["line"],
        "format_workspace": ["workspace"], "parse_workspace": ["string"]},
    packing: {"pack": ["text"], "unpack": ["values"]},
    console: {"Console": []},
}
METHODS = {
    Rules: {
        "images": [], "apply": ["text"], "length": ["letter", "steps"], "letter_at": ["letter", "steps", "index"],
        "is_growing": ["letter"]},
    Workspace: {
        "names": [], "entry": ["name"], "moment": [], "names_at": ["moment"], "places": [], "verdict": ["name"]},
    Console: {"run": ["line"], "workspace": []},
}
# The only parameters that take nothing but what the document describes.
PLAIN_PARAMETERS = {"format_place": ["place"], "format_workspace": ["workspace"]}


def good_arguments():
    """New arguments, by the name of the parameter, that fit every function which has nothing else below."""
    return {
        "value": [(1, 2), {"a": [1]}], "pattern": "aba", "letters": "a", "values": {"a": (1,), "b": (2, 3)},
        "text": (1, 2, 1, 1, 2, 1), "count": 2, "index": 5, "steps": ["a", "b"], "place": (0, {"a": (0,), "b": (1,)}),
        "letter": 3, "length": 30, "start": 7, "other": "abcab", "formula": ["ab", "ba"], "longest": 1,
        "inner": (0, {"a": "a", "b": "bc"}), "outer": (0, {"b": (2,), "a": (1,), "c": (1,)}),
        "images": [(0, 1), (2, 0), (2, 2)], "workspace": filled_box(), "name": "p", "moment": 2, "line": "1 2 3",
        "string": "pattern p aba\ntext t 1 2"}


def filled_box():
    """A new workspace."""
    box = Workspace()
    box.batch([("pattern", "p", "aba"), ("text", "t", (1, 2, 1)), ("pattern", "q", "aa")])
    box.do(("join", "u", "t", "t"))
    return box


def filled_console():
    """A new console with the same entries."""
    box = Console()
    for line in notation.format_workspace(filled_box()).split("\n"):
        box.run(line)
    return box


def special_arguments(name):
    """What differs for the function or method of this name."""
    return {
        "is_refutation": {"value": ["aba", "aa", "b"]}, "is_chain": {"value": ["a", "b"]},
        "is_place": {"value": (0, {"b": (2,), "a": (1,)})}, "length_bound": {"letters": 2},
        "letter_of": {"index": 2, "first": 17, "second": 22}, "compose": {"text": (1, 2, 1, 1, 2)},
        "is_avoiding_place": {"value": (0, {"a": (0,), "b": (7,)})},
        "descend": {"pattern": "a", "place": (3, {"a": (15,)})},
        "chain_from_avoiding": {"pattern": "a", "place": (3, {"a": (15,)})}, "blocked_texts": {"letters": 2},
        "is_open": {"letters": 2}, "count_open": {"letters": 2}, "longest_open": {"letters": 2},
        "apply": {"text": (0, 1, 2)}, "length": {"letter": 0, "steps": 9}, "letter_at": {"letter": 0, "steps": 9},
        "is_growing": {"letter": 2}, "parse_place": {"line": "1 b=1,2 a=3"}, "run": {"line": "find p u"},
        "unpack": {"values": [5, 130, 44]}}.get(name, {})


def arguments_of(name, parameters):
    """New arguments for this function or method, by name, in the order of the parameters."""
    all_of_them = {**good_arguments(), **special_arguments(name)}
    return {parameter: all_of_them[parameter] for parameter in parameters}


def objects():
    """New objects, with the names of their methods."""
    return [(Rules([(0, 1), (2, 0), (2, 2)]), METHODS[Rules]), (filled_box(), METHODS[Workspace]),
            (filled_console(), METHODS[Console])]


def questions():
    """Every function and every method that changes nothing, with arguments: new objects and new arguments."""
    rows = [(getattr(module, name), name, parameters) for module, listed in FUNCTIONS.items()
            for name, parameters in listed.items()]
    for thing, listed in objects():
        rows += [(getattr(thing, name), name, parameters) for name, parameters in listed.items()]
    return [(function, arguments_of(name, parameters)) for function, name, parameters in rows]


def plain_answer(answer):
    """A copy of the answer that later changes of it do not reach, without objects of the program."""
    if isinstance(answer, Rules):
        return answer.images()
    if isinstance(answer, Workspace):
        return [(name, answer.entry(name)) for name in answer.names()] + [answer.moment()]
    if isinstance(answer, Console):
        return plain_answer(answer.workspace())
    return copy.deepcopy(answer)


def spoil_all(things):
    """Change each list, each dict and each workspace of a question or an answer."""
    for thing in things:
        if isinstance(thing, Workspace) and len(thing) > 0:
            thing.do(("remove", thing.names()[0]))
        spoil(thing)


class EveryCall(unittest.TestCase):

    def test_parameters(self):
        for module, listed in FUNCTIONS.items():
            for name, parameters in listed.items():
                function = getattr(module, name)
                self.assertEqual(function.__module__, module.__name__)
                self.assertEqual(list(inspect.signature(function).parameters), parameters, name)
                self.assertEqual(inspect.isclass(function), name[0].isupper())
        for kind, listed in METHODS.items():
            for name, parameters in listed.items():
                self.assertEqual(list(inspect.signature(vars(kind)[name]).parameters)[1:], parameters, name)

    def test_by_position_and_by_name(self):
        for function, given in questions():
            named = {"start": given.pop("start")} if "start" in given else {}
            # Objects without an == of their own are equal to nothing but themselves.
            if function is not Console:
                check_conventions(self, function, *given.values(), **named)

    def test_equal_questions_get_equal_answers(self):
        first = [plain_answer(function(**given)) for function, given in questions()]
        kept = questions()
        chance = random.Random(101)
        for _ in range(3):
            for at in chance.sample(range(len(kept)), len(kept)):
                function, given = kept[at]
                with self.subTest(function=function.__name__):
                    before = [plain_answer(value) for value in given.values()]
                    answer = function(**given)
                    self.assertEqual(plain_answer(answer), first[at])
                    self.assertEqual([plain_answer(value) for value in given.values()], before)
                    if function.__name__ != "workspace":
                        spoil_all([answer])
                    spoil_all(given.values())
                    kept[at] = (function, questions()[at][1])


class WrongCalls(unittest.TestCase):

    OWN = tuple(kind for kind in vars(errors).values() if inspect.isclass(kind))

    def bent(self, chance):
        """The questions, each with one argument replaced by any value."""
        for function, given in questions():
            names = [name for name in given if name not in PLAIN_PARAMETERS.get(function.__name__, [])]
            if names:
                given[chance.choice(names)] = chance.choice(MANY_KINDS)
                yield function, given

    def test_any_value(self):
        chance = random.Random(102)
        seen = {}
        for _ in range(60):
            for function, given in self.bent(chance):
                before = copy.deepcopy(given)
                with self.subTest(function=function.__name__, given=str(given)[:100]):
                    try:
                        function(**given)
                    except self.OWN as error:
                        seen[type(error)] = seen.get(type(error), 0) + 1
                    self.assertEqual(given, before)
        self.assertGreater(len(seen), 10)

    def test_a_call_that_raises_an_error_changes_nothing(self):
        chance = random.Random(103)
        first = [plain_answer(function(**given)) for function, given in questions()]
        kept = questions()
        for at, (function, given) in enumerate(kept):
            owner = getattr(function, "__self__", None)
            before = plain_answer(owner)
            for name in given:
                if name in PLAIN_PARAMETERS.get(function.__name__, []):
                    continue
                for value in chance.sample(MANY_KINDS, 12):
                    try:
                        function(**{**given, name: value})
                    except self.OWN:
                        self.assertEqual(plain_answer(owner), before)
            self.assertEqual(plain_answer(function(**given)), first[at], function.__name__)


class Equality(unittest.TestCase):

    def test_objects_of_the_program(self):
        things = [Rules([(0,)]), Workspace(), Console(), errors.NothingToUndo(), errors.InvalidPattern("a"),
                  errors.TooLarge(8), filled_box(), avoider.avoiding_text, "", (), [], {}, None, 0, False]
        for at, one in enumerate(things):
            for to, other in enumerate(things):
                if type(one) is not type(other) and not (isinstance(one, int) and isinstance(other, int)):
                    self.assertIs(one == other, False)
                    self.assertIs(one != other, True)
                if at == to:
                    self.assertIs(one == other, True)
                    self.assertIs(one != other, False)

    def test_any_value(self):
        for thing in [Rules([(0,)]), Workspace(), filled_box(), Console(), filled_console()]:
            for value in MANY_KINDS:
                self.assertIs(thing == value, False)
                self.assertIs(value == thing, False)
                self.assertIs(thing != value, True)
                self.assertIs(value != thing, True)


if __name__ == "__main__":
    unittest.main()
