"""The console: promises [2], [3], [4], [6], [9] and [12]."""

import random
import unittest

from mustoccur import console as module
from mustoccur.chains import is_chain
from mustoccur.console import Console
from mustoccur.errors import (
    DuplicateName, InvalidCommand, NothingToRedo, NothingToUndo, TooLarge, UnknownName)
from mustoccur.matching import find
from mustoccur.notation import format_text, parse_place
from mustoccur.ranks import best_block
from mustoccur.workspace import Workspace
from tests.boxes import rows_of
from tests.checks import check_class, check_refused
from tests.samples import MANY_KINDS, square_free

START = ["pattern p aba", "text t 1 2", "text e .", "pattern none .", "pattern aa aa", "text u 3 1 2 1"]
NOT_LINES = [
    "", " ", "p", "Pattern p a", "patterns p a", "fill x p t", "help", "ok", "do", "batch", "entry p", "moment",
    "places",
    "names_at 0", "len", "\n", ".", "names\n", "undo\n", "NAMES", "names,", "show\tp",
    "pattern", "pattern p", "pattern p ", "pattern p A", "pattern p a b", "pattern p ..", "pattern P a", "pattern p a ",
    "pattern  p a", " pattern p a", "pattern p  a", "pattern p abcdefghi", "pattern ninechars a", "pattern . a",
    "pattern p1 a", "pattern p .a", "pattern p 1", "pattern x a\n", "pattern x\na a", "pattern x " + "a" * 41,
    "text", "text t", "text t ", "text t 01", "text t 1  2", "text t 1 ", "text t a", "text t 1,2", "text T 1",
    "text t ..", "text t 1000000", "text t -1", "text x 1\n", "text ninechars 1", "text x . .", "text  1",
    "text x " + " ".join(["1"] * 4097),
    "rename", "rename p", "rename p ", "rename p q r", "rename P q", "rename p Q", "rename p  q", "rename p q ",
    "remove", "remove ", "remove p q", "remove P", "remove p ", "remove  p", "remove ninechars", "remove 1",
    "join", "join x", "join x t", "join x t t t", "join x t T", "join X t t", "join x  t t", "join x t t ",
    "undo ", "undo 1", "undo p", " undo", "redo ", "redo p", "names ", "names p", "names  ",
    "show", "show ", "show p q", "show P", "show p ", "show ninechars", "verdict", "verdict ", "verdict p q",
    "verdict A",
    "verdict p ", "find", "find p", "find p ", "find p t u", "find P t", "find p T", "find p  t", "rank", "rank ",
    "rank t t", "rank T", "rank 1", "rank t "]


def filled_console(lines=START):
    box = Console()
    for line in lines:
        box.run(line)
    return box


class Shared(unittest.TestCase):

    def check_error(self, error, value, box, line):
        """The line raises this error with an equal value, and nothing changes."""
        before = (rows_of(box.workspace()), box.workspace().moment())
        with self.subTest(line=str(line)[:60]):
            with self.assertRaises(error) as caught:
                box.run(line)
            self.assertIs(type(caught.exception), error)
            self.assertEqual(list(vars(caught.exception).values()), [] if value is None else [value])
            self.assertEqual((rows_of(box.workspace()), box.workspace().moment()), before)


class Interface(unittest.TestCase):

    def test_names_and_parameters(self):
        check_class(self, module, "Console", {"__init__": [], "run": ["line"], "workspace": []})

    def test_by_name(self):
        self.assertEqual(Console().run(line="pattern p aba"), "ok")

    def test_workspace_is_the_very_object(self):
        box = Console()
        self.assertIs(type(box.workspace()), Workspace)
        self.assertIs(box.workspace(), box.workspace())
        box.run("text t 1")
        self.assertEqual(box.workspace().names(), ["t"])
        box.workspace().do(("text", "u", (2,)))
        self.assertEqual(box.run("names"), "t u")
        self.assertEqual(box.run("undo"), "ok")
        self.assertEqual(box.workspace().names(), ["t"])
        self.assertIsNot(Console().workspace(), box.workspace())
        self.assertEqual(Console().run("names"), "none")

    def test_equality(self):
        box = Console()
        self.assertIs(box == box, True)
        self.assertIs(box != box, False)
        for value in MANY_KINDS + [box.workspace(), Workspace(), Console, "ok"]:
            self.assertIs(box == value, False)
            self.assertIs(value == box, False)
            self.assertIs(box != value, True)
            self.assertIs(value != box, True)


class Commands(Shared):

    def test_deeds(self):
        box = Console()
        for line, rows in [
                ("pattern p aba", [("p", "aba")]), ("text t 1 20", [("p", "aba"), ("t", (1, 20))]),
                ("rename p q", [("q", "aba"), ("t", (1, 20))]), ("pattern none .", None), ("text e .", None),
                ("join j t t", [("q", "aba"), ("t", (1, 20)), ("none", ""), ("e", ()), ("j", (1, 20, 1, 20))]),
                ("remove none", [("q", "aba"), ("t", (1, 20)), ("e", ()), ("j", (1, 20, 1, 20))]),
                ("undo", [("q", "aba"), ("t", (1, 20)), ("none", ""), ("e", ()), ("j", (1, 20, 1, 20))]),
                ("undo", [("q", "aba"), ("t", (1, 20)), ("none", ""), ("e", ())]),
                ("redo", [("q", "aba"), ("t", (1, 20)), ("none", ""), ("e", ()), ("j", (1, 20, 1, 20))])]:
            self.assertEqual(box.run(line), "ok")
            if rows is not None:
                self.assertEqual(rows_of(box.workspace()), rows)

    def test_one_moment_for_each_deed(self):
        box = filled_console()
        self.assertEqual(box.workspace().moment(), len(START))
        for line in ["names", "show p", "verdict p", "find p u", "rank u"]:
            box.run(line)
        self.assertEqual(box.workspace().moment(), len(START))

    def test_names(self):
        box = Console()
        self.assertEqual(box.run("names"), "none")
        box.run("text t 1")
        self.assertEqual(box.run("names"), "t")
        box.run("pattern names .")
        box.run("rename t none")
        self.assertEqual(box.run("names"), "none names")

    def test_show(self):
        box = filled_console()
        for name, expected in [("p", "aba"), ("t", "1 2"), ("e", "."), ("none", "."), ("u", "3 1 2 1")]:
            self.assertEqual(box.run("show " + name), expected)

    def test_verdict(self):
        box = filled_console()
        self.assertEqual(box.run("verdict p"), "unavoidable a b")
        self.assertEqual(box.run("verdict none"), "unavoidable")
        self.assertEqual(box.run("verdict aa"), "avoidable")
        box.run("pattern abac abacaba")
        word, *steps = box.run("verdict abac").split(" ")
        self.assertEqual((word, len(steps)), ("unavoidable", 3))
        self.assertTrue(is_chain("abacaba", steps))
        box.run("pattern ab ab")
        box.run("pattern locked abab")
        self.assertEqual(box.run("verdict locked"), "avoidable")
        self.assertTrue(is_chain("ab", box.run("verdict ab").split(" ")[1:]))

    def test_find(self):
        box = filled_console()
        for line, expected in [("find p u", "1 a=1 b=2"), ("find p t", "none"), ("find none t", "0"), ("find aa u",
                               "none"),
                               ("find none e", "0"), ("find p e", "none")]:
            self.assertEqual(box.run(line), expected)
        box.run("join uu u u")
        self.assertEqual(box.run("find aa uu"), "0 a=3,1,2,1")
        box.run("pattern five abcde")
        box.run("text long " + " ".join(["7"] * 41))
        self.assertEqual(box.run("find five long"), "0 a=7 b=7 c=7 d=7 e=7")
        self.assertEqual(parse_place(box.run("find p uu")), find("aba", (3, 1, 2, 1) * 2))

    def test_rank(self):
        box = filled_console()
        for name, expected in [("t", "1"), ("e", "0"), ("u", "2")]:
            self.assertEqual(box.run("rank " + name), expected)
        text = square_free(400)
        box.run("text long " + format_text(text))
        self.assertEqual(box.run("rank long"), str(best_block(text)[0]))
        box.run("text same " + " ".join(["5"] * 400))
        self.assertEqual(box.run("rank same"), "8")

    def test_names_that_are_words(self):
        box = Console()
        for line in ["text text 1", "pattern pattern aa", "join join text text", "rename text names", "pattern find a",
                     "text rank 0 1 0", "remove names"]:
            self.assertEqual(box.run(line), "ok")
        self.assertEqual(box.run("names"), "pattern join find rank")
        self.assertEqual(box.run("find pattern join"), "0 a=1")
        self.assertEqual(box.run("rank rank"), "2")
        self.assertEqual(box.run("show find"), "a")
        self.assertEqual(box.run("verdict pattern"), "avoidable")

    def test_long_texts(self):
        box = Console()
        line = "text t " + " ".join(["999999"] * 4096)
        self.assertEqual(box.run(line), "ok")
        self.assertEqual(box.run("show t"), line[len("text t "):])

    def test_answers_are_strings(self):
        box = Console()
        for line in START + ["names", "show p", "verdict p", "find p t", "rank t", "undo", "redo", "remove p"]:
            self.assertIs(type(box.run(line)), str)


class WrongLines(Shared):

    def test_no_such_lines(self):
        for line in NOT_LINES + [kind for kind in MANY_KINDS if kind not in ["names", "undo", "redo"]]:
            for box in [Console(), filled_console()]:
                moment = box.workspace().moment()
                check_refused(self, InvalidCommand, line, box.run, line)
                self.assertEqual(box.workspace().moment(), moment)

    def test_tuples_and_lists_of_words(self):
        for line in [("remove", "p"), ["names"], ("names",), {"names": 1}, ("text", "x", (1,)), ["undo"]]:
            check_refused(self, InvalidCommand, line, filled_console().run, line)

    def test_bent_lines(self):
        chance = random.Random(141)
        lines = START + ["rename p q", "remove p", "join x t t", "undo", "redo", "names", "show p", "verdict p",
                         "find p t", "rank t"]
        good = {line.split(" ")[0] for line in lines}
        for _ in range(3000):
            line = chance.choice(lines)
            at = chance.randint(0, len(line))
            line = line[:at] + chance.choice(" 0.=\nAp") + line[at + chance.randint(0, 1):]
            box = filled_console()
            try:
                box.run(line)
            except InvalidCommand as error:
                self.assertIs(error.line, line)
            except (DuplicateName, UnknownName, NothingToUndo, NothingToRedo):
                self.assertIn(line.split(" ")[0], good)
            else:
                self.assertIn(line.split(" ")[0], good)
                self.assertNotIn("\n", line)
                self.assertNotIn("  ", line)
                self.assertEqual(line, line.strip())

    def test_before_every_other_error(self):
        box = filled_console()
        for line in ["pattern p A", "text p 01", "rename x P", "rename p t t", "remove x y", "join p x Y", "join t X e",
                     "show x y", "verdict x y", "verdict t ", "find x T", "find X t", "rank p p", "undo x"]:
            check_refused(self, InvalidCommand, line, box.run, line)


class Errors(Shared):

    def test_what_the_workspace_raises(self):
        box = filled_console()
        for line, error, value in [
                ("pattern p a", DuplicateName, "p"), ("text p 1", DuplicateName, "p"), ("rename x t", DuplicateName,
                "t"),
                ("rename p p", DuplicateName, "p"), ("rename x y", UnknownName, "x"), ("remove x", UnknownName, "x"),
                ("join p x y", DuplicateName, "p"), ("join x y z", UnknownName, "y"), ("join x t z", UnknownName, "z"),
                ("join x p t", UnknownName, "p"), ("join x t p", UnknownName, "p"), ("redo", NothingToRedo, None)]:
            self.check_error(error, value, box, line)
        self.check_error(NothingToUndo, None, Console(), "undo")
        self.check_error(NothingToRedo, None, Console(), "redo")

    def test_names_of_the_other_kind(self):
        box = filled_console()
        for line, value in [
                ("show x", "x"), ("verdict x", "x"), ("verdict t", "t"), ("verdict e", "e"), ("find x t", "x"),
                ("find p x", "x"), ("find x y", "x"), ("find t p", "t"), ("find t u", "t"), ("find p aa", "aa"),
                ("find t x", "t"), ("find p p", "p"), ("rank x", "x"), ("rank p", "p"), ("rank none", "none")]:
            self.check_error(UnknownName, value, box, line)

    def test_what_the_functions_raise(self):
        box = filled_console(["text long " + " ".join(["1"] * 401), "text four " + " ".join(["1"] * 400),
                              "text most " + " ".join(["1"] * 4096)])
        self.check_error(TooLarge, 400, box, "rank long")
        self.check_error(TooLarge, 400, box, "rank most")
        self.check_error(TooLarge, 4096, box, "join x most long")
        self.assertEqual(box.run("rank four"), "8")

    def test_forty_names(self):
        box = filled_console(["text t 1", "pattern p aa"])
        for first in "abcdefgh":
            for second in "abcde":
                if len(box.workspace()) < 40:
                    box.run(f"pattern x{first}{second} .")
        self.assertEqual(len(box.run("names").split(" ")), 40)
        for line in ["pattern new a", "text new .", "join new t t"]:
            self.check_error(TooLarge, 40, box, line)
        self.check_error(DuplicateName, "t", box, "text t 1")
        self.assertEqual(box.run("rename t new"), "ok")
        self.assertEqual(box.run("remove p"), "ok")
        self.assertEqual(box.run("pattern p ."), "ok")

    def test_an_error_does_not_clear_what_can_be_redone(self):
        box = filled_console()
        box.run("undo")
        for line in ["pattern p a", "show x", "nothing", "rank p", "join x y z"]:
            self.assertRaises((ValueError, KeyError), box.run, line)
        self.assertEqual(box.run("redo"), "ok")
        self.assertEqual(box.run("show u"), "3 1 2 1")
        box.run("undo")
        box.run("text x 1")
        self.check_error(NothingToRedo, None, box, "redo")


if __name__ == "__main__":
    unittest.main()
