"""The workspace: promises [2], [3], [4], [6] and [9]."""

import copy
import itertools
import random
import unittest

from mustoccur import workspace as module
from mustoccur.chains import is_chain, reached
from mustoccur.console import Console
from mustoccur.errors import (
    DuplicateName, InvalidDeed, InvalidName, InvalidPattern, InvalidText, InvalidValues, NoMoment, NothingToRedo,
    NothingToUndo, TooLarge, UnknownName)
from mustoccur.rules import Rules
from mustoccur.workspace import Workspace
from tests.boxes import NOT_NAMES, WORDS, PlainBox, rows_of, some_deed
from tests.checks import check_class, check_refused
from tests.plain import grown_patterns, plain_reached, some_patterns
from tests.samples import MANY_KINDS, NOT_PATTERNS, NOT_TEXTS, slow_find

START = [("pattern", "p", "aba"), ("text", "t", (1, 2)), ("text", "e", ()), ("pattern", "none", ""),
         ("text", "long", (3,) * 4000), ("pattern", "q", "abcdefgh")]
NOT_DEEDS = MANY_KINDS + [
    ("remove",), ("remove", "p", "t"), ("rename", "p"), ("rename", "p", "x", "y"), ("join", "x", "t"), ("pattern", "x"),
    ("join", "x", "t", "t", "t"), ("text", "x"), ("text", "x", (), ()), ("fill", "x", "p"), ("pattern", "x", "a", "a"),
    ("fill", "x", "p", (), ()), ("add", "x", "a"), ("Pattern", "x", "a"), ("", "x"), ("patterns", "x", "a"), ("undo",),
    (["remove"], "p"), (None, "p"), (("remove", "p"),), ["remove", "p"], ["text", "x", ()], "remove p", ("remove p",),
    {"remove": "p"}, ({}, "x", "a"), (0, "x", "a"), (True, "p"), ("text ", "x", ())]
NOT_NAME_TUPLES = [kind for kind in MANY_KINDS if kind not in [(), ("a",)]] + [
    ["t", "t"], "t", ("t", ""), ("t", "T"), ("t", None), (("t",),), ("t", 5), {"a": "t"}, ("t", "ninechars"), ("t t",)]


def filled_box(deeds=START):
    box = Workspace()
    for deed in deeds:
        box.do(deed)
    return box


def full_box(many=40):
    """A box with so many names: texts t and b (4,095 letters), the pattern p, the empty text e, and others."""
    box = filled_box([("text", "t", (1,)), ("text", "b", (0,) * 4095), ("pattern", "p", "aa"), ("text", "e", ())])
    for name in itertools.islice(("x" + first + second for first in "abcdef" for second in "abcdefgh"), many - 4):
        box.do(("pattern", name, ""))
    return box


class Shared(unittest.TestCase):

    def check_nothing_changed(self, error, value, box, call, *given):
        """The call raises the error with the very value and leaves the box as it is."""
        before = (rows_of(box), box.moment(), box.names_at(box.moment() // 2))
        check_refused(self, error, value, call, *given)
        self.assertEqual((rows_of(box), box.moment(), box.names_at(box.moment() // 2)), before)

    def check_limit(self, limit, box, deed):
        before = (rows_of(box), box.moment())
        with self.subTest(limit=limit, deed=str(deed)[:60]):
            with self.assertRaises(TooLarge) as caught:
                box.do(deed)
            self.assertEqual(caught.exception.limit, limit)
            self.assertEqual((rows_of(box), box.moment()), before)


class Interface(unittest.TestCase):

    def test_names_and_parameters(self):
        check_class(self, module, "Workspace", {
            "__init__": [], "do": ["deed"], "batch": ["deeds"], "undo": [], "redo": [], "names": [], "entry": ["name"],
            "moment": [], "names_at": ["moment"], "places": [], "verdict": ["name"], "__len__": [],
            "__eq__": ["other"]})

    def test_example(self):
        box = Workspace()
        box.batch([("pattern", "p", "aa"), ("text", "t", (1, 2)), ("join", "u", "t", "t")])
        self.assertEqual(box.places(), [("p", "u", 0)])
        box.undo()
        self.assertEqual(box.names(), [])
        box.redo()
        box.do(("rename", "p", "q"))
        self.assertEqual(box.names(), ["q", "t", "u"])
        self.assertEqual(box.names_at(1), ["p", "t", "u"])
        with self.assertRaises(UnknownName) as caught:
            box.do(("remove", "x"))
        self.assertEqual(caught.exception.name, "x")

    def test_everything_but_the_questions_returns_none(self):
        box = Workspace()
        for deed in START + [("join", "j", "t", "e"), ("fill", "f", "p", ("t", "t")), ("rename", "f", "g"),
                             ("remove", "g")]:
            self.assertIsNone(box.do(deed))
        self.assertIsNone(box.batch([]))
        self.assertIsNone(box.batch([("remove", "j")]))
        self.assertIsNone(box.undo())
        self.assertIsNone(box.redo())

    def test_by_name(self):
        box = Workspace()
        box.do(deed=("pattern", "p", "aba"))
        box.batch(deeds=[("text", "t", (1,))])
        self.assertEqual(box.entry(name="p"), "aba")
        self.assertEqual(box.names_at(moment=1), ["p"])
        self.assertEqual(box.verdict(name="p")[0], "unavoidable")

    def test_what_is_returned_is_new(self):
        box = filled_box()
        for call in [box.names, box.places, lambda: box.names_at(2), lambda: box.verdict("p")[1]]:
            found = call()
            kept = list(found)
            found.append("more")
            found[:1] = []
            self.assertEqual(call(), kept)

    def test_deeds_that_were_passed_may_be_changed(self):
        deeds = [("pattern", "p", "aba"), ("text", "t", (1, 2))]
        box = Workspace()
        box.batch(deeds)
        self.assertEqual(deeds, [("pattern", "p", "aba"), ("text", "t", (1, 2))])
        deeds[0] = ("pattern", "x", "a")
        deeds.clear()
        self.assertEqual(rows_of(box), [("p", "aba"), ("t", (1, 2))])
        box.undo()
        box.redo()
        self.assertEqual(rows_of(box), [("p", "aba"), ("t", (1, 2))])


class Deeds(Shared):

    def test_each_deed(self):
        box = filled_box()
        rows = [deed[1:] for deed in START]
        self.assertEqual(rows_of(box), rows)
        box.do(("join", "j", "t", "t"))
        box.do(("join", "k", "e", "j"))
        box.do(("join", "l", "e", "e"))
        rows += [("j", (1, 2, 1, 2)), ("k", (1, 2, 1, 2)), ("l", ())]
        self.assertEqual(rows_of(box), rows)
        box.do(("fill", "f", "p", ("t", "j")))
        box.do(("fill", "g", "p", ("t", "t")))
        box.do(("fill", "h", "none", ()))
        rows += [("f", (1, 2, 1, 2, 1, 2, 1, 2)), ("g", (1, 2) * 3), ("h", ())]
        self.assertEqual(rows_of(box), rows)
        box.do(("rename", "t", "a"))
        box.do(("rename", "q", "b"))
        rows[1], rows[5] = ("a", (1, 2)), ("b", "abcdefgh")
        self.assertEqual(rows_of(box), rows)
        box.do(("remove", "p"))
        box.do(("remove", "j"))
        rows = [row for row in rows if row[0] not in ("p", "j")]
        self.assertEqual(rows_of(box), rows)
        box.do(("pattern", "p", "aa"))
        self.assertEqual(rows_of(box), rows + [("p", "aa")])

    def test_values_in_the_order_of_first_occurrence(self):
        box = filled_box([("pattern", "p", "cacb"), ("text", "x", (1,)), ("text", "y", (2, 2)), ("text", "z", (3,))])
        box.do(("fill", "f", "p", ("x", "y", "z")))
        self.assertEqual(box.entry("f"), (1, 2, 2, 1, 3))

    def test_names_that_are_words(self):
        box = Workspace()
        for word in WORDS:
            box.do(("text", word, (1,)))
        box.do(("rename", "text", "undo"))
        box.do(("join", "text", "join", "remove"))
        box.do(("remove", "remove"))
        box.do(("rename", "pattern", "remove"))
        box.do(("pattern", "pattern", "aa"))
        box.do(("fill", "names", "pattern", ("fill",)))
        self.assertEqual(box.names(), ["remove", "undo", "rename", "join", "fill", "text", "pattern", "names"])
        self.assertEqual(box.entry("names"), (1, 1))

    def test_names_of_one_and_eight_letters(self):
        box = filled_box([("text", "a", ()), ("text", "abcdefgh", ()), ("pattern", "zzzzzzzz", ""), ("text", "z", ())])
        self.assertEqual(box.names(), ["a", "abcdefgh", "zzzzzzzz", "z"])

    def test_a_renamed_entry_keeps_its_place(self):
        box = filled_box([("text", name, ()) for name in "abc"])
        for old, new, names in [("a", "x", "xbc"), ("c", "a", "xba"), ("b", "z", "xza"), ("z", "b", "xba")]:
            box.do(("rename", old, new))
            self.assertEqual(box.names(), list(names))
        box.do(("remove", "x"))
        box.do(("text", "x", ()))
        self.assertEqual(box.names(), list("bax"))


class WrongDeeds(Shared):

    def test_not_deeds(self):
        for value in NOT_DEEDS:
            for box in [Workspace(), filled_box()]:
                before = (rows_of(box), box.moment())
                with self.assertRaises(InvalidDeed) as caught:
                    box.do(value)
                self.assertEqual(caught.exception.index, 0)
                self.assertIs(type(caught.exception.index), int)
                self.assertEqual((rows_of(box), box.moment()), before)

    def test_not_names(self):
        values = NOT_NAMES + [kind for kind in MANY_KINDS if not isinstance(kind, str)] + ["abcdefghi", "a\n", "a~"]
        for value in values:
            for box in [Workspace(), filled_box()]:
                for deed in [("pattern", value, "a"), ("pattern", value, 5), ("text", value, ()), ("text", value, 5),
                             ("rename", value, "p"), ("rename", "p", value), ("rename", "x", value),
                             ("rename", value, ""), ("remove", value), ("join", value, "", ""), ("join", "p", value,
                             ""),
                             ("join", "x", "t", value), ("fill", value, "", 5), ("fill", "p", value, 5),
                             ("fill", "p", value, ("",))]:
                    self.check_nothing_changed(InvalidName, value, box, box.do, deed)

    def test_not_patterns_and_not_texts(self):
        box = full_box()
        for value in NOT_PATTERNS:
            for name in ["new", "p", "t"]:
                self.check_nothing_changed(InvalidPattern, value, box, box.do, ("pattern", name, value))
        for value in NOT_TEXTS:
            for name in ["new", "p", "t"]:
                self.check_nothing_changed(InvalidText, value, box, box.do, ("text", name, value))

    def test_not_a_tuple_of_names(self):
        for value in NOT_NAME_TUPLES:
            for name, source in [("x", "p"), ("p", "p"), ("x", "x"), ("x", "t")]:
                for box in [filled_box(), full_box()]:
                    self.check_nothing_changed(InvalidValues, value, box, box.do, ("fill", name, source, value))

    def test_names_that_exist(self):
        for box in [filled_box(), full_box()]:
            for name in ["p", "t", "e"]:
                for deed in [("pattern", name, "a"), ("text", name, (1,)), ("rename", "p", name), ("rename", "t", name),
                             ("rename", "unknown", name), ("join", name, "unknown", "p"), ("join", name, "b", "b"),
                             ("fill", name, "unknown", ()), ("fill", name, "p", ()), ("fill", name, "t", ("e", "p"))]:
                    value = deed[2] if deed[0] == "rename" else deed[1]
                    self.check_nothing_changed(DuplicateName, value, box, box.do, deed)

    def test_unknown_names(self):
        for box in [filled_box(), full_box()]:
            for deed, at in [
                    (("rename", "x", "y"), 1), (("rename", "x", "x"), 1), (("remove", "x"), 1),
                    (("join", "x", "y", "z"), 2), (("join", "x", "t", "z"), 3), (("join", "x", "p", "z"), 2),
                    (("join", "x", "t", "p"), 3), (("join", "x", "x", "t"), 2), (("fill", "x", "t", ("y",)), 2),
                    (("fill", "x", "y", ()), 2), (("fill", "x", "x", ("t", "t")), 2), (("join", "x", "t", "x"), 3)]:
                self.check_nothing_changed(UnknownName, deed[at], box, box.do, deed)
            for values, at in [(("y", "z"), 0), (("t", "z"), 1), (("p",), 0), (("t", "p", "z"), 1), (("e", "y"), 1),
                               (("t", "t", "t", "x"), 3), (("t", "x"), 1)]:
                self.check_nothing_changed(UnknownName, values[at], box, box.do, ("fill", "x", "p", values))

    def test_values_that_do_not_fit(self):
        box = filled_box()
        for values in [(), ("t",), ("t", "t", "t"), ("e", "t"), ("t", "e"), ("e", "e"), ("e",)]:
            self.check_nothing_changed(InvalidValues, values, box, box.do, ("fill", "x", "p", values))
        for values in [("t",), ("e",)]:
            self.check_nothing_changed(InvalidValues, values, box, box.do, ("fill", "x", "none", values))
        # Before TooLarge, also when nothing can be added.
        box = full_box()
        for values in [(), ("e",), ("t", "t"), ("b", "b")]:
            self.check_nothing_changed(InvalidValues, values, box, box.do, ("fill", "x", "p", values))

    def test_against_the_plain_workspace(self):
        chance = random.Random(111)
        errors = {}
        for _ in range(250):
            box, plain = Workspace(), PlainBox()
            for _ in range(120):
                self.step(chance, box, plain, errors)
        for error in [InvalidDeed, InvalidName, InvalidPattern, InvalidText, InvalidValues, DuplicateName, UnknownName,
                      TooLarge, NothingToUndo, NothingToRedo, None]:
            self.assertGreater(errors.get(error, 0), 5, error)

    def step(self, chance, box, plain, errors):
        """The same step of both, and the same outcome."""
        kind = chance.choice(["do"] * 12 + ["batch"] * 3 + ["undo"] * 3 + ["redo"] * 2)
        given = [some_deed(chance)] if kind == "do" else []
        if kind == "batch":
            given = [chance.choice((list, tuple))(some_deed(chance) for _ in range(chance.randint(0, 3)))]
        outcomes = []
        for thing in (box, plain):
            try:
                outcomes.append((getattr(thing, kind)(*given), None))
            except Exception as error:
                outcomes.append((type(error), vars(error)))
        self.assertEqual(outcomes[0], outcomes[1], (kind, given))
        errors[outcomes[0][0]] = errors.get(outcomes[0][0], 0) + 1
        self.assertEqual(rows_of(box), plain.all[plain.at])
        self.assertEqual(box.moment(), plain.at)
        self.assertEqual(len(box), len(plain.all[plain.at]))
        at = chance.randint(0, plain.at)
        self.assertEqual(box.names_at(at), [name for name, entry in plain.all[at]])


class Limits(Shared):

    def test_forty_names(self):
        box = full_box(39)
        self.assertEqual(len(box), 39)
        for deed in [("pattern", "new", "a"), ("text", "new", ()), ("join", "new", "t", "t"),
                     ("fill", "new", "p", ("t",))]:
            other = copy.deepcopy(box)
            other.do(deed)
            self.assertEqual(len(other), 40)
            for more in [("pattern", "more", ""), ("text", "more", ()), ("join", "more", "t", "e"),
                         ("fill", "more", "p", ("t",)), ("join", "more", "b", "b"), ("fill", "more", "p", ("b",))]:
                self.check_limit(40, other, more)

    def test_rename_and_remove_need_no_room(self):
        box = full_box()
        box.do(("rename", "t", "new"))
        self.assertEqual((len(box), box.names()[0]), (40, "new"))
        self.check_limit(40, box, ("text", "t", ()))
        box.do(("remove", "new"))
        box.do(("text", "t", ()))
        self.assertEqual((len(box), box.names()[-1]), (40, "t"))
        self.check_limit(40, box, ("pattern", "new", ""))

    def test_4096_letters(self):
        box = full_box(20)
        box.do(("text", "four", (5,) * 4096))
        box.do(("join", "j", "b", "t"))
        box.do(("join", "k", "e", "four"))
        box.do(("text", "half", (1,) * 2048))
        box.do(("fill", "f", "p", ("half",)))
        for name in ["four", "j", "k", "f"]:
            self.assertEqual(len(box.entry(name)), 4096)
        self.assertEqual(box.entry("j"), (0,) * 4095 + (1,))
        box.do(("text", "two", (1, 1)))
        box.do(("pattern", "abb", "abb"))
        for deed in [("join", "x", "b", "two"), ("join", "x", "t", "four"), ("join", "x", "four", "four"),
                     ("fill", "x", "p", ("b",)), ("fill", "x", "abb", ("two", "half")),
                     ("fill", "x", "abb", ("t", "half")), ("fill", "x", "p", ("four",))]:
            self.check_limit(4096, box, deed)

    def test_a_batch_at_the_limit(self):
        box = full_box()
        with self.assertRaises(InvalidDeed) as caught:
            box.batch([("remove", "t"), ("text", "t", ()), ("text", "u", ())])
        self.assertEqual(caught.exception.index, 2)
        self.assertEqual(box.names()[0], "t")


class Batches(Shared):

    def test_lists_and_tuples(self):
        for kind in (list, tuple):
            box = Workspace()
            box.batch(kind(START))
            self.assertTrue(box == filled_box())
            self.assertEqual(box.moment(), 1)
            box.batch(kind([]))
            self.assertEqual(box.moment(), 2)
            self.assertEqual(box.names_at(1), box.names_at(2))

    def test_each_deed_on_what_those_before_leave(self):
        box = Workspace()
        box.batch([("text", "t", (1,)), ("join", "u", "t", "t"), ("rename", "t", "a"), ("text", "t", (2,)),
                   ("join", "v", "u", "t"), ("remove", "u"), ("pattern", "u", "aa"), ("fill", "w", "u", ("v",))])
        self.assertEqual(rows_of(box), [("a", (1,)), ("t", (2,)), ("v", (1, 1, 2)), ("u", "aa"),
                                        ("w", (1, 1, 2, 1, 1, 2))])
        self.assertEqual(box.moment(), 1)

    def check_batch(self, box, deeds, index):
        """The batch raises InvalidDeed with this index, and nothing changes."""
        before = (rows_of(box), box.moment())
        with self.subTest(deeds=deeds):
            with self.assertRaises(InvalidDeed) as caught:
                box.batch(deeds)
            self.assertIs(type(caught.exception), InvalidDeed)
            self.assertEqual(caught.exception.index, index)
            self.assertEqual((rows_of(box), box.moment()), before)

    def test_the_first_that_raises_an_error(self):
        box = filled_box()
        good = [("text", "x", (1,)), ("pattern", "y", "a")]
        # These are wrong only behind the good ones.
        late = [("text", "x", (1,)), ("rename", "t", "x"), ("join", "z", "t", "y")]
        for bad in late + [None, (), ("remove",), ("remove", "P"), ("remove", "z"), ("pattern", "z", "A"), 5,
                           ("text", "z", [1]), ("fill", "z", "p", ["t"]), ("fill", "z", "p", ("t",)),
                           ("join", "z", "long", "long"), ["remove", "p"], ("fill", "z", "x", ("t",))]:
            rows = [(good + [bad], 2), (good + [bad, bad, ("remove", "p")], 2)]
            if bad not in late:
                rows += [([bad] + good, 0), ([good[0], bad, bad], 1)]
            for deeds, index in rows:
                self.check_batch(box, deeds, index)
                self.check_batch(box, tuple(deeds), index)

    def test_other_values(self):
        for value in MANY_KINDS + ["text", {"remove": "p"}, 0, Workspace()]:
            if isinstance(value, (list, tuple)):
                continue
            box = filled_box()
            with self.assertRaises(InvalidDeed) as caught:
                box.batch(value)
            self.assertEqual(caught.exception.index, -1)
            self.assertTrue(box == filled_box())

    def test_undone_as_one(self):
        box = filled_box()
        rows = rows_of(box)
        box.batch([("remove", "p"), ("text", "x", ()), ("rename", "x", "y")])
        after = rows_of(box)
        box.batch(())
        self.assertEqual(box.moment(), len(START) + 2)
        box.undo()
        self.assertEqual((rows_of(box), box.moment()), (after, len(START) + 1))
        box.undo()
        self.assertEqual((rows_of(box), box.moment()), (rows, len(START)))
        box.redo()
        self.assertEqual((rows_of(box), box.moment()), (after, len(START) + 1))
        box.redo()
        self.assertRaises(NothingToRedo, box.redo)


class History(Shared):

    def test_nothing_to_undo_and_to_redo(self):
        box = Workspace()
        for error, call in [(NothingToUndo, box.undo), (NothingToRedo, box.redo)]:
            with self.assertRaises(error) as caught:
                call()
            self.assertIs(type(caught.exception), error)
        box.do(("text", "t", ()))
        self.assertRaises(NothingToRedo, box.redo)
        box.undo()
        self.assertRaises(NothingToUndo, box.undo)
        self.assertEqual((box.names(), box.moment()), ([], 0))
        box.redo()
        self.assertEqual((box.names(), box.moment()), (["t"], 1))
        self.assertRaises(NothingToRedo, box.redo)

    def test_all_the_way_back_and_forth(self):
        box = filled_box()
        states = [rows_of(filled_box(START[:many])) for many in range(len(START) + 1)]
        for many in reversed(range(len(START))):
            box.undo()
            self.assertEqual((rows_of(box), box.moment(), len(box)), (states[many], many, many))
        for many in range(1, len(START) + 1):
            box.redo()
            self.assertEqual((rows_of(box), box.moment(), len(box)), (states[many], many, many))

    def test_what_clears_what_can_be_redone(self):
        for call in [lambda box: box.do(("text", "x", ())), lambda box: box.batch([("text", "x", ())]),
                     lambda box: box.batch([]), lambda box: box.batch(()), lambda box: box.do(("remove", "p"))]:
            box = filled_box()
            box.undo()
            box.undo()
            call(box)
            self.assertRaises(NothingToRedo, box.redo)
            self.assertEqual(box.moment(), len(START) - 1)
            box.undo()
            box.redo()
            self.assertRaises(NothingToRedo, box.redo)

    def test_an_error_does_not(self):
        for call in [lambda box: box.do(("text", "p", ())), lambda box: box.do(None), lambda box: box.batch(5),
                     lambda box: box.batch([("text", "x", ()), None]), lambda box: box.names_at(99),
                     lambda box: box.entry("x"), lambda box: box.verdict("t"), lambda box: box.do(("remove", "x"))]:
            box = filled_box()
            box.undo()
            box.undo()
            self.assertRaises(Exception, call, box)
            box.redo()
            box.redo()
            self.assertTrue(box == filled_box())

    def test_questions_do_not(self):
        box = filled_box()
        box.undo()
        for call in [box.names, box.moment, box.places, lambda: box.names_at(0), lambda: box.entry("p"),
                     lambda: box.verdict("p"), lambda: len(box), lambda: box == box]:
            call()
        box.redo()
        self.assertTrue(box == filled_box())

    def test_names_at(self):
        box = Workspace()
        self.assertEqual(box.names_at(0), [])
        box.do(("text", "t", ()))
        box.batch([("text", "u", ()), ("rename", "t", "a")])
        box.do(("remove", "a"))
        box.batch([])
        expected = [[], ["t"], ["a", "u"], ["u"], ["u"]]
        self.assertEqual([box.names_at(at) for at in range(5)], expected)
        box.undo()
        box.undo()
        self.assertEqual([box.names_at(at) for at in range(3)], expected[:3])
        for value in [3, 4]:
            self.check_nothing_changed(NoMoment, value, box, box.names_at, value)
        box.redo()
        self.assertEqual(box.names_at(3), ["u"])

    def test_no_moment(self):
        box = filled_box()
        for value in MANY_KINDS + [-1, len(START) + 1, -len(START), 10 ** 29, "1"]:
            if isinstance(value, int) and not isinstance(value, bool) and 0 <= value <= len(START):
                continue
            self.check_nothing_changed(NoMoment, value, box, box.names_at, value)
            if value != 0 or value is False:
                check_refused(self, NoMoment, value, Workspace().names_at, value)


class Questions(Shared):

    def test_entry(self):
        box = filled_box()
        for word, name, entry in START:
            self.assertEqual(box.entry(name), entry)
            self.assertIs(type(box.entry(name)), str if word == "pattern" else tuple)
        for value in MANY_KINDS + ["x", "P", "pp", ["p"], ("p",), "longer", "abcdefghi", "p "]:
            if value not in ["p", "t", "e"]:
                self.check_nothing_changed(UnknownName, value, box, box.entry, value)
                check_refused(self, UnknownName, value, Workspace().entry, value)

    def test_entry_of_a_name_that_is_gone(self):
        box = filled_box()
        box.batch([("remove", "p"), ("rename", "t", "u")])
        for name in ["p", "t"]:
            check_refused(self, UnknownName, name, box.entry, name)
        self.assertEqual(box.entry("u"), (1, 2))
        box.undo()
        check_refused(self, UnknownName, "u", box.entry, "u")
        self.assertEqual(box.entry("t"), (1, 2))

    def test_len_and_names(self):
        box = Workspace()
        self.assertEqual((len(box), box.names()), (0, []))
        for many, deed in enumerate(START, 1):
            box.do(deed)
            self.assertEqual((len(box), box.names()), (many, [row[1] for row in START[:many]]))

    def test_equal(self):
        self.assertIs(Workspace() == Workspace(), True)
        self.assertIs(Workspace() != Workspace(), False)
        first = filled_box([("text", "t", (1, 1)), ("pattern", "p", "aa")])
        second = Workspace()
        second.batch([("pattern", "x", "aa"), ("text", "o", (1,)), ("join", "t", "o", "o"), ("remove", "x"),
                      ("remove", "o"), ("pattern", "p", "aa")])
        third = filled_box([("pattern", "p", "aa"), ("text", "x", (1, 1)), ("remove", "p"), ("pattern", "y", "aa"),
                            ("rename", "x", "t"), ("rename", "y", "p"), ("text", "z", ())])
        third.undo()
        for one, other in itertools.product([first, second, third, copy.deepcopy(first)], repeat=2):
            self.assertIs(one == other, True)
            self.assertIs(one != other, False)

    def test_not_equal(self):
        boxes = [filled_box(deeds) for deeds in [
            [], [("text", "t", ())], [("pattern", "t", "")], [("text", "u", ())], [("text", "t", (1,))],
            [("text", "t", ()), ("text", "u", ())], [("text", "u", ()), ("text", "t", ())],
            [("pattern", "t", "a")], [("pattern", "t", "b")], [("text", "t", (2,))]]]
        for (at, one), (to, other) in itertools.product(enumerate(boxes), repeat=2):
            self.assertIs(one == other, at == to)
            self.assertIs(one != other, at != to)

    def test_other_values(self):
        for box in [Workspace(), filled_box()]:
            for value in MANY_KINDS + [rows_of(box), dict(rows_of(box)), box.names(), Rules([(0,)]), Console(),
                                       Workspace,
                                       NothingToUndo(), [box], len(box)]:
                self.assertIs(box == value, False)
                self.assertIs(value == box, False)
                self.assertIs(box != value, True)
                self.assertIs(value != box, True)


class Places(Shared):

    def test_against_a_plain_search(self):
        texts = [(), (1,), (1, 2, 1, 2), (3, 1, 2, 1), (7, 8, 5, 5), (1, 2, 3), (0, 1, 2, 1, 2, 0)]
        words = ["", "aa", "aba", "abab", "abc", "a", "abca", "zyxz", "abcd"]
        box = Workspace()
        for at, (text, word) in enumerate(itertools.zip_longest(texts, words)):
            if text is not None:
                box.do(("text", "t" + "abcdefghi"[at], text))
            box.do(("pattern", "p" + "ihgfedcba"[at], word))
        expected = []
        for first, second in itertools.product(box.names(), repeat=2):
            if isinstance(box.entry(first), str) and isinstance(box.entry(second), tuple):
                place = slow_find(box.entry(first), box.entry(second))
                if place is not None:
                    expected.append((first, second, place[0]))
        self.assertEqual(box.places(), expected)
        self.assertGreater(len({start for first, second, start in expected}), 2)
        self.assertIsInstance(box.places()[0], tuple)

    def test_order_of_names(self):
        box = filled_box([("text", "t", (9, 1, 1)), ("pattern", "q", "aa"), ("text", "s", (1, 1)), ("pattern", "p",
                          "a"),
                          ("pattern", "none", "")])
        self.assertEqual(box.places(), [("q", "t", 1), ("q", "s", 0), ("p", "t", 0), ("p", "s", 0), ("none", "t", 0),
                                        ("none", "s", 0)])
        box.do(("rename", "q", "z"))
        self.assertEqual(box.places()[:2], [("z", "t", 1), ("z", "s", 0)])
        box.do(("remove", "t"))
        self.assertEqual(box.places(), [("z", "s", 0), ("p", "s", 0), ("none", "s", 0)])

    def test_limits(self):
        box = filled_box([("pattern", "four", "abcd"), ("pattern", "five", "abcde"), ("text", "forty", (0,) * 40),
                          ("text", "more", (0,) * 41), ("pattern", "none", ""), ("text", "empty", ()),
                          ("pattern", "high", "wxyzw"), ("pattern", "eight", "abcdefgh")])
        self.assertEqual(box.places(), [("four", "forty", 0), ("none", "forty", 0), ("none", "empty", 0),
                                        ("high", "forty", 0)])

    def test_none(self):
        self.assertEqual(Workspace().places(), [])
        self.assertEqual(filled_box([("text", "t", (1, 2)), ("pattern", "p", "aa")]).places(), [])
        self.assertEqual(filled_box([("text", "t", (1, 2))]).places(), [])


class Verdicts(Shared):

    def test_examples(self):
        box = filled_box([("pattern", "p", "aba"), ("pattern", "none", ""), ("pattern", "aa", "aa"),
                          ("pattern", "q", "aab")])
        self.assertEqual(box.verdict("p"), ("unavoidable", ["a", "b"]))
        self.assertEqual(box.verdict("none"), ("unavoidable", []))
        self.assertEqual(box.verdict("aa"), ("avoidable", ["aa"]))
        self.assertEqual(box.verdict("q"), ("avoidable", ["aa", "aab"]))

    def test_against_a_plain_search(self):
        for pattern in some_patterns(112, 20, "abcdef", 9) + grown_patterns(113, 20, "abcdef"):
            box = filled_box([("text", "t", ()), ("pattern", "p", pattern)])
            found = box.verdict("p")
            self.assertIsInstance(found, tuple)
            steps = plain_reached(pattern)
            if "" in steps:
                self.assertEqual((found[0], len(found[1])), ("unavoidable", steps[""]))
                self.assertTrue(is_chain(pattern, found[1]))
            else:
                self.assertEqual(found, ("avoidable", sorted(steps)))
                self.assertEqual(found[1], reached(pattern))
            self.assertIsInstance(found[1], list)

    def test_what_does_not_name_a_pattern(self):
        box = filled_box()
        for value in MANY_KINDS + ["t", "e", "long", "x", "P", ["p"], ("p",)]:
            self.check_nothing_changed(UnknownName, value, box, box.verdict, value)


if __name__ == "__main__":
    unittest.main()
