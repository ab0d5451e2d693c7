"""A slow but plain workspace, written after the words of the document, that the program is compared with."""

import random

from mustoccur.errors import (
    DuplicateName, InvalidDeed, InvalidName, InvalidPattern, InvalidText, InvalidValues, NothingToRedo, NothingToUndo,
    TooLarge, UnknownName)
from mustoccur.patterns import is_pattern, is_text
from tests.samples import MANY_KINDS, names_of

SIZES = {"pattern": 3, "text": 3, "rename": 3, "remove": 2, "join": 4, "fill": 4}
WORDS = list(SIZES)


def is_plain_name(value):
    return isinstance(value, str) and value in set_of_names(value)


def set_of_names(value):
    """The value itself if it consists of 1 to 8 letters."""
    good = 1 <= len(value) <= 8 and all("a" <= letter <= "z" for letter in value)
    return [value] if good else []


def check_form(deed):
    """Raise what is wrong with the parts of the deed, from left to right."""
    if not isinstance(deed, tuple) or not deed or deed[0] not in WORDS or len(deed) != SIZES[deed[0]]:
        raise InvalidDeed(0)
    for at, part in enumerate(deed[1:], 1):
        if (deed[0], at) == ("pattern", 2):
            if not is_pattern(part):
                raise InvalidPattern(part)
        elif (deed[0], at) == ("text", 2):
            if not is_text(part):
                raise InvalidText(part)
        elif (deed[0], at) == ("fill", 3):
            if not isinstance(part, tuple) or not all(is_plain_name(name) for name in part):
                raise InvalidValues(part)
        elif not is_plain_name(part):
            raise InvalidName(part)


def needed_names(deed):
    """The pairs of a name that must be there, and the kinds of entries that it may name."""
    word = deed[0]
    if word in ("rename", "remove"):
        return [(deed[1], (str, tuple))]
    if word == "join":
        return [(deed[2], (tuple,)), (deed[3], (tuple,))]
    if word == "fill":
        return [(deed[2], (str,))] + [(name, (tuple,)) for name in deed[3]]
    return []


def plain_after(rows, deed):
    """The rows (name, entry) after the deed, or the error that the document lists first."""
    check_form(deed)
    found = dict(rows)
    word, name = deed[:2]
    new = deed[2] if word == "rename" else None if word == "remove" else name
    if new in found:
        raise DuplicateName(new)
    for needed, kinds in needed_names(deed):
        if not isinstance(found.get(needed), kinds):
            raise UnknownName(needed)
    if word == "remove":
        return [row for row in rows if row[0] != name]
    if word == "rename":
        return [(new, entry) if old == name else (old, entry) for old, entry in rows]
    if word == "fill":
        names = names_of(found[deed[2]])
        if len(names) != len(deed[3]) or any(found[each] == () for each in deed[3]):
            raise InvalidValues(deed[3])
    if len(rows) == 40:
        raise TooLarge(40)
    return rows + [(name, plain_entry(found, deed))]


def plain_entry(found, deed):
    """The new entry of a deed that adds one."""
    if deed[0] in ("pattern", "text"):
        return deed[2]
    if deed[0] == "join":
        entry = found[deed[2]] + found[deed[3]]
    else:
        values = dict(zip(names_of(found[deed[2]]), deed[3]))
        entry = ()
        for variable in found[deed[2]]:
            entry += found[values[variable]]
    if len(entry) > 4096:
        raise TooLarge(4096)
    return entry


class PlainBox:
    """Rows after each deed or batch, and where we are in them."""

    def __init__(self):
        self.all = [[]]
        self.at = 0

    def keep(self, rows):
        self.all = self.all[:self.at + 1] + [rows]
        self.at += 1

    def do(self, deed):
        self.keep(plain_after(self.all[self.at], deed))

    def batch(self, deeds):
        rows = self.all[self.at]
        for index, deed in enumerate(deeds):
            try:
                rows = plain_after(rows, deed)
            except Exception:
                raise InvalidDeed(index)
        self.keep(rows)

    def undo(self):
        if self.at == 0:
            raise NothingToUndo()
        self.at -= 1

    def redo(self):
        if self.at == len(self.all) - 1:
            raise NothingToRedo()
        self.at += 1


def rows_of(box):
    """The rows (name, entry) of a workspace."""
    return [(name, box.entry(name)) for name in box.names()]


NAMES = ["p", "q", "t", "u", "text", "fill", "pattern", "join", "longname"]
NOT_NAMES = ["", "P", "a b", "ninechars", "p1", "p\n", "p.", None, 5, True, ("p",), ["p"], {}, "A", " ", "-", "p "]


def some_part(chance, good, bad):
    """One of the good values, and now and then one of the bad ones."""
    return chance.choice(bad if chance.random() < 0.06 else good)


def some_deed(chance):
    """A deed that may be good or bad in some way."""
    if chance.random() < 0.04:
        return chance.choice(MANY_KINDS + [
            ["remove", "p"], ("remove",), ("remove", "p", "q"), ("add", "p", "a"), "undo", ("fill", "p", "q"),
            (("remove", "p"),), ("Text", "t", ()), ([], "p")])
    names = [some_part(chance, NAMES, NOT_NAMES) for _ in range(3)]
    word = chance.choice(WORDS)
    if word == "pattern":
        entry = some_part(chance, ["", "a", "aa", "aba", "abcab", "bab", "abcde"], ["A", 5, "a" * 41, (), None, []])
        return word, names[0], entry
    if word == "text":
        texts = [(), (1,), (1, 2), (2, 1, 2), (0,) * 41, (7, 8) * 20, tuple(range(3000)), (9,) * 4090]
        return word, names[0], some_part(chance, texts, [(-1,), "t", [1], None, (0,) * 4097, (True,)])
    if word == "fill":
        values = tuple(chance.choice(NAMES) for _ in range(chance.randint(0, 3)))
        bad = [("P",), ["t"], "t", None, ("t", 5), (("t",),), {"a": "t"}, ("t", "")]
        return word, names[0], names[1], some_part(chance, [values], bad)
    return (word, *names[:SIZES[word] - 1])
