"""Texts, places and workspaces as strings: promises [2], [3], [4] and [6]."""

import random
import re
import unittest

from mustoccur import notation
from mustoccur.errors import InvalidText, ParseError
from mustoccur.notation import (
    format_place, format_text, format_workspace, parse_place, parse_text, parse_workspace)
from mustoccur.workspace import Workspace
from tests.boxes import some_deed
from tests.checks import check_conventions, check_interface, check_refused, offset_of
from tests.samples import MANY_KINDS, NOT_TEXTS

LETTER = "(?:0|[1-9][0-9]{0,5})"
TEXT_PREFIX = re.compile(f"(?:{LETTER} )*(?:{LETTER})?")
PLACE_PREFIX = re.compile(
    f"([0-9]*)((?: [a-z]={LETTER}(?:,{LETTER})*)*)(?: (?:[a-z](?:=(?:{LETTER},)*(?:{LETTER})?)?)?)?")
LAST = 10 ** 18

TEXTS = [(), (0,), (1,), (10,), (999999,), (0, 12, 3), (0, 0, 0), (100000, 99999, 1), (7,) * 4096, (999999,) * 4096,
         tuple(range(4096))]
PLACES = [(0, {}), (5, {}), (LAST, {}), (1, {"a": (1, 2)}), (1, {"a": (1, 2), "b": (3,)}),
          (0, {"z": (0,), "a": (999999,)}), (LAST, {"b": (1,), "a": (2,)}), (12, {name: (at,) for at,
          name in enumerate("hgfedcba")}),
          (3, {name: (at, 0) for at, name in enumerate("abcdwxyz")}), (7, {"a": (5,) * 4096, "b": (0,) * 4096})]


def begins_a_text(string):
    """Whether the string is a prefix of some written text."""
    return string in ("", ".") or TEXT_PREFIX.fullmatch(string) is not None and string.count(" ") < 4096


def begins_a_place(string):
    """Whether the string is a prefix of some written place."""
    found = PLACE_PREFIX.fullmatch(string)
    if found is None or string.startswith(" "):
        return False
    start = found.group(1)
    if start and (start[0] == "0" and start != "0" or int(start) > LAST):
        return False
    parts = string.split(" ")[1:]
    names = [part[0] for part in parts if part]
    return len(parts) <= 8 and len(set(names)) == len(names) and all(part.count(",") < 4096 for part in parts)


def longest_prefix(string, begins):
    """The length of the longest prefix that begins a written form; each prefix of it begins one, too."""
    low, high = 0, len(string)
    while low < high:
        middle = (low + high + 1) // 2
        if begins(string[:middle]):
            low = middle
        else:
            high = middle - 1
    return low


def bent(chance, string, signs):
    """The string with one or two characters changed, dropped, doubled or put in, or cut off."""
    for _ in range(chance.randint(1, 2)):
        at = chance.randint(0, len(string))
        way = chance.randrange(5)
        if way == 0:
            string = string[:at] + chance.choice(signs) + string[at:]
        elif way == 1:
            string = string[:at] + string[at + 1:]
        elif way == 2:
            string = string[:at] + chance.choice(signs) + string[at + 1:]
        elif way == 3:
            string = string[:at] + string[at:at + 2] + string[at:]
        else:
            string = string[:at]
    return string


def some_strings(seed, many, forms, signs):
    """Bent written forms, and strings of all kinds of signs."""
    chance = random.Random(seed)
    found = [bent(chance, chance.choice(forms), signs) for _ in range(many)]
    return found + ["".join(chance.choice(signs) for _ in range(chance.randint(0, 7))) for _ in range(many)]


class Interface(unittest.TestCase):

    def test_names_and_parameters(self):
        check_interface(self, notation, {
            "format_text": ["text"], "parse_text": ["line"], "format_place": ["place"], "parse_place": ["line"],
            "format_workspace": ["workspace"], "parse_workspace": ["string"]})

    def test_conventions(self):
        for text in TEXTS[:6]:
            check_conventions(self, format_text, text)
            check_conventions(self, parse_text, format_text(text))
        for place in PLACES[:6]:
            check_conventions(self, format_place, place)
            check_conventions(self, parse_place, format_place(place))
        check_conventions(self, parse_workspace, "pattern p aa\ntext t .")

    def test_not_strings(self):
        for value in MANY_KINDS + [(1, 2), ["1"], 0, 12, ("1",), {"1": 1}, 5, [""], ()]:
            if not isinstance(value, str):
                for parse in [parse_text, parse_place, parse_workspace]:
                    with self.assertRaises(ParseError) as caught:
                        parse(value)
                    self.assertEqual(caught.exception.offset, 0)
                    self.assertIs(type(caught.exception.offset), int)

    def test_the_empty_string(self):
        self.assertEqual(offset_of(parse_text, ""), 0)
        self.assertEqual(offset_of(parse_place, ""), 0)
        self.assertTrue(parse_workspace("") == Workspace())


class Texts(unittest.TestCase):

    def test_examples(self):
        for text, line in [((), "."), ((0,), "0"), ((0, 12, 3), "0 12 3"), ((999999, 0), "999999 0"), ((10,), "10")]:
            self.assertEqual(format_text(text), line)
            self.assertEqual(parse_text(line), text)

    def test_there_and_back(self):
        for text in TEXTS:
            self.assertEqual(parse_text(format_text(text)), text)
            self.assertIsInstance(parse_text(format_text(text)), tuple)
            self.assertIsInstance(format_text(text), str)

    def test_not_texts(self):
        for value in NOT_TEXTS:
            check_refused(self, InvalidText, value, format_text, value)

    def test_offsets(self):
        for line, offset in [
                ("0 01", 3), ("01", 1), ("00", 1), ("0 ", 2), ("0  1", 2), (" 0", 0), (" ", 0), ("..", 1), (". ", 1),
                (".1", 1), ("1.", 1), ("1 .", 2), ("1 2 .", 4), ("-1", 0), ("+1", 0), ("1 -2", 2), ("1,2", 1),
                ("1 2,", 3), ("1000000", 6), ("999999", None), ("9999990", 6), ("0999999", 1), ("1 1000000", 8),
                ("a", 0), ("1 a", 2), ("1\n", 1), ("\n", 0), ("1 2\n3", 3), ("1 ", 2), ("12 34 ", 6), ("1 2 3x", 5),
                ("1_0", 1), ("123456 7", None), ("1234567", 6), ("0 0 00", 5), ("10 010", 4)]:
            with self.subTest(line=line):
                self.assertEqual(offset_of(parse_text, line), offset)
                self.assertEqual(longest_prefix(line, begins_a_text), len(line) if offset is None else offset)

    def test_4096_and_4097_letters(self):
        for letter in ["0", "999999"]:
            line = " ".join([letter] * 4096)
            self.assertEqual(parse_text(line), (int(letter),) * 4096)
            for more in [" 0", " ", " 00", "  ", " x"]:
                self.assertEqual(offset_of(parse_text, line + more), len(line))
            self.assertEqual(offset_of(parse_text, line + "0"), len(line))
            short = " ".join([letter] * 4095)
            self.assertEqual(offset_of(parse_text, short + " "), len(short) + 1)
            self.assertEqual(offset_of(parse_text, short + " 0 "), len(short) + 2)

    def test_many_bent_strings(self):
        forms = [format_text(text) for text in TEXTS[:8]] + ["12 345 6789 10 0", "5 100000 1000", "1 2 3 4 5"]
        wrong = 0
        for line in some_strings(121, 4000, forms, " 0123456789.,-+=a\n~ 00"):
            found = offset_of(parse_text, line)
            if found is None:
                self.assertEqual(format_text(parse_text(line)), line)
            else:
                self.assertEqual(found, longest_prefix(line, begins_a_text), line)
                wrong += 1
        self.assertGreater(wrong, 4000)

    def test_long_bent_strings(self):
        forms = [format_text(text) for text in TEXTS[8:]]
        for line in some_strings(122, 40, forms, " 0123456789.")[:40]:
            found = offset_of(parse_text, line)
            if found is None:
                self.assertEqual(format_text(parse_text(line)), line)
            else:
                self.assertEqual(found, longest_prefix(line, begins_a_text))


class Places(unittest.TestCase):

    def test_examples(self):
        for place, line in [((0, {}), "0"), ((1, {"a": (1, 2)}), "1 a=1,2"), ((LAST, {}), "1000000000000000000"),
                            ((1, {"a": (1, 2), "b": (3,)}), "1 a=1,2 b=3"), ((7, {"b": (0,), "a": (5,)}), "7 b=0 a=5"),
                            ((0, {name: (1,) for name in "zyxwvuts"}), "0 z=1 y=1 x=1 w=1 v=1 u=1 t=1 s=1")]:
            self.assertEqual(format_place(place), line)
            self.assertEqual(parse_place(line), place)
            self.assertEqual(list(parse_place(line)[1]), list(place[1]))

    def test_there_and_back(self):
        for place in PLACES:
            found = parse_place(format_place(place))
            self.assertEqual(found, place)
            self.assertEqual(list(found[1]), list(place[1]))
            self.assertIsInstance(found, tuple)
            self.assertEqual(format_place(found), format_place(place))

    def test_offsets(self):
        for line, offset in [
                ("1 a=1 a", 6), ("1 a=1 a=2", 6), ("1 a=1 b=2 a=3", 10), ("1 ", 2), (" 1", 0), (" ", 0), ("1  a=1", 2),
                ("01", 1), ("01 a=1", 1), ("-1", 0), ("+1 a=1", 0), ("1 a", 3), ("1 a=", 4), ("1 a= ", 4), ("1 a=,1",
                4),
                ("1 a=1,", 6), ("1 a=1,,2", 6), ("1 a=1, 2", 6), ("1 a=1 2", 6), ("1 a=01", 5), ("1 a=0,01", 7),
                ("1 a=1 ", 6), ("1 a=1  b=1", 6), ("1 a=-1", 4), ("1 a=1000000", 10), ("1 a=999999", None),
                ("1 A=1", 2), ("1 ab=1", 3), ("1 =1", 2), ("1 1=1", 2), ("1a=1", 1), ("1,a=1", 1), ("a=1", 0), (".", 0),
                ("1 .", 2), ("1 a=.", 4), ("1 a=1.", 5), ("1\n", 1), ("1 a=1\n", 5), ("1 a=1 b", 7), ("1 a=1 b=", 8),
                ("1 a=1=2", 5), ("1 a==1", 4), ("1 {=1", 2), ("1 `=1", 2), ("1 a=b", 4)]:
            with self.subTest(line=line):
                self.assertEqual(offset_of(parse_place, line), offset)
                self.assertEqual(longest_prefix(line, begins_a_place), len(line) if offset is None else offset)

    def test_starts(self):
        for start in [0, 1, 9, 10, 999999, 1000000, LAST - 1, LAST]:
            self.assertEqual(parse_place(str(start)), (start, {}))
            self.assertEqual(parse_place(f"{start} a=1"), (start, {"a": (1,)}))
        for line, offset in [
                (str(LAST + 1), 18), (str(2 * LAST), 18), (str(10 * LAST), 19), ("9" * 19, 18), ("9" * 18, None),
                ("1" + "0" * 16 + "1", None), ("1" + "0" * 17 + "01", 19), ("1" + "0" * 30, 19), ("1" * 19, 18),
                ("1" + "0" * 17 + "10", 18), (str(LAST) + "a", 19), (str(LAST) + " ", 20), ("1" * 18 + " b", 20)]:
            with self.subTest(line=line):
                self.assertEqual(offset_of(parse_place, line), offset)
                self.assertEqual(longest_prefix(line, begins_a_place), len(line) if offset is None else offset)

    def test_eight_and_nine_variables(self):
        line = "5 " + " ".join(f"{name}=1" for name in "abcdefgh")
        self.assertEqual(parse_place(line), (5, {name: (1,) for name in "abcdefgh"}))
        for more in [" i=1", " a=1", " ", " i"]:
            self.assertEqual(offset_of(parse_place, line + more), len(line))
        self.assertEqual(offset_of(parse_place, line[:-4] + " "), len(line) - 3)
        self.assertEqual(offset_of(parse_place, line + ",2"), None)

    def test_4096_and_4097_letters(self):
        line = "0 a=" + ",".join(["12"] * 4096)
        self.assertEqual(parse_place(line), (0, {"a": (12,) * 4096}))
        self.assertEqual(offset_of(parse_place, line + ",1"), len(line))
        self.assertEqual(offset_of(parse_place, line + ","), len(line))
        self.assertEqual(offset_of(parse_place, line + " "), len(line) + 1)
        self.assertEqual(parse_place(line + " b=1"), (0, {"a": (12,) * 4096, "b": (1,)}))
        self.assertEqual(parse_place(line + line[1:].replace("a", "b")), (0, {"a": (12,) * 4096, "b": (12,) * 4096}))

    def test_many_bent_strings(self):
        forms = [format_place(place) for place in PLACES[:9]] + ["10 a=1,2,3 b=4 c=55,66", "7 x=100000,1000 y=0 z=0,0"]
        wrong = 0
        for line in some_strings(123, 6000, forms, " 0123456789.,-+==abcxyz\n  ,,00"):
            found = offset_of(parse_place, line)
            if found is None:
                self.assertEqual(format_place(parse_place(line)), line)
            else:
                self.assertEqual(found, longest_prefix(line, begins_a_place), line)
                wrong += 1
        self.assertGreater(wrong, 6000)


class Workspaces(unittest.TestCase):

    def filled(self):
        box = Workspace()
        box.batch([("text", "t", (1, 20)), ("pattern", "p", "aba"), ("text", "empty", ()), ("pattern", "none", ""),
                   ("join", "joined", "t", "t"), ("rename", "t", "text"), ("pattern", "pattern", "stuvwxyz" * 5)])
        return box

    def test_examples(self):
        self.assertEqual(format_workspace(Workspace()), "")
        self.assertEqual(format_workspace(self.filled()), "\n".join([
            "text text 1 20", "pattern p aba", "text empty .", "pattern none .", "text joined 1 20 1 20",
            "pattern pattern " + "stuvwxyz" * 5]))
        self.assertEqual(format_workspace(parse_workspace("pattern p aa\ntext t .")), "pattern p aa\ntext t .")

    def test_there_and_back(self):
        chance = random.Random(124)
        boxes = [Workspace(), self.filled()]
        for _ in range(60):
            box = Workspace()
            for _ in range(25):
                try:
                    box.do(some_deed(chance))
                except (ValueError, KeyError, OverflowError):
                    pass
            boxes.append(box)
        for box in boxes:
            written = format_workspace(box)
            found = parse_workspace(written)
            self.assertIs(type(found), Workspace)
            self.assertTrue(found == box)
            self.assertEqual(format_workspace(found), written)

    def test_one_moment_for_each_line(self):
        box = parse_workspace(format_workspace(self.filled()))
        self.assertEqual(box.moment(), 6)
        self.assertEqual(box.names_at(2), ["text", "p"])
        box.undo()
        self.assertEqual(box.names(), ["text", "p", "empty", "none", "joined"])
        self.assertEqual(parse_workspace("").moment(), 0)

    def test_each_workspace_is_new(self):
        first = parse_workspace("text t 1")
        first.do(("remove", "t"))
        self.assertEqual(parse_workspace("text t 1").names(), ["t"])

    def test_lines_that_are_wrong(self):
        for line in ["", " ", "text", "text t", "text t ", "pattern p", "pattern p ", "pattern", "Text t 1",
                     "texts t 1",
                     "text T 1", "text ninechars 1", "text  1", " text t 1", "text t 1 ", "text t  1", "text t 01",
                     "text t 1,2", "text t ..", "text t 1000000", "pattern p A", "pattern p a b", "pattern p aa ",
                     "pattern p ..", "pattern p .a", "pattern P a", "pattern  p a", "pattern p  a",
                     "pattern p abcdefghi",
                     "pattern p " + "a" * 41, "remove x", "rename x y", "join y x x", "undo", "pattern p 1", "text t a",
                     "text t\t1", "text t 1\t", "text t " + " ".join(["1"] * 4097), "fill x p t", "pattern . a", "."]:
            with self.subTest(line=line[:40]):
                self.assertEqual(offset_of(parse_workspace, "text x 1\n" + line), 1)
                self.assertEqual(offset_of(parse_workspace, "text x 1\npattern y aa\n" + line + "\ntext x 1"), 2)
                if line != "":
                    self.assertEqual(offset_of(parse_workspace, line), 0)
                self.assertEqual(offset_of(parse_workspace, line + "\ntext x 1"), 0)

    def test_names_that_are_there_already(self):
        for line in ["text x 1", "text x .", "pattern x a", "pattern x ."]:
            self.assertEqual(offset_of(parse_workspace, "text y 1\ntext x 1\n" + line + "\nnothing"), 2)
            self.assertEqual(offset_of(parse_workspace, "pattern x .\n" + line), 1)

    def test_the_first_line(self):
        self.assertEqual(offset_of(parse_workspace, "text x 1\ntext y\ntext x 1"), 1)
        self.assertEqual(offset_of(parse_workspace, "text x 1\ntext x 1\ntext y"), 1)
        self.assertEqual(offset_of(parse_workspace, "\n"), 0)
        self.assertEqual(offset_of(parse_workspace, "\ntext x 1"), 0)
        self.assertEqual(offset_of(parse_workspace, "text x 1\n"), 1)
        self.assertEqual(offset_of(parse_workspace, "text x 1\n\ntext y 1"), 1)

    def test_40_and_41_lines(self):
        names = [first + second for first in "abcde" for second in "abcdefghi"]
        lines = [f"text {name} 1" if at % 2 else f"pattern {name} ." for at, name in enumerate(names)]
        self.assertEqual(len(parse_workspace("\n".join(lines[:40]))), 40)
        self.assertEqual(format_workspace(parse_workspace("\n".join(lines[:40]))), "\n".join(lines[:40]))
        self.assertEqual(offset_of(parse_workspace, "\n".join(lines[:41])), 40)
        self.assertEqual(offset_of(parse_workspace, "\n".join(lines)), 40)
        self.assertEqual(offset_of(parse_workspace, "\n".join(lines[:40] + [lines[3]])), 40)

    def test_the_workspace_stays_as_it_is(self):
        box = self.filled()
        box.do(("remove", "p"))
        box.undo()
        format_workspace(box)
        self.assertEqual(box.moment(), 1)
        box.redo()
        self.assertEqual(box.moment(), 2)


if __name__ == "__main__":
    unittest.main()
