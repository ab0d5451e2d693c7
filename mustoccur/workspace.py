"""A workspace of named patterns and named texts, with undo."""

from mustoccur.chains import chain, reached
from mustoccur.errors import (
    DuplicateName, InvalidDeed, InvalidName, InvalidPattern, InvalidText, InvalidValues, NoMoment, NothingToRedo,
    NothingToUndo, TooLarge, UnknownName)
from mustoccur.matching import find
from mustoccur.patterns import (
    LONGEST_TEXT, VARIABLES, check_pattern, check_text, is_plain_integer, substitute, variables)

MOST_NAMES = 40
LONGEST_NAME = 8
MOST_SEARCHED_VARIABLES = 4
LONGEST_SEARCHED_TEXT = 40
# For the word of each deed, what its other parts are.
PARTS = {
    "pattern": ("name", "pattern"),
    "text": ("name", "text"),
    "rename": ("name", "name"),
    "remove": ("name",),
    "join": ("name", "name", "name"),
    "fill": ("name", "name", "values"),
}


def is_name(value):
    """Whether any value is a name."""
    if not isinstance(value, str) or not 1 <= len(value) <= LONGEST_NAME:
        return False
    return all([letter in VARIABLES for letter in value])


def check_part(kind, part):
    """Raise the error of this kind of part if any value is not such a part."""
    if kind == "name" and not is_name(part):
        raise InvalidName(part)
    if kind == "pattern":
        check_pattern(part)
    if kind == "text":
        check_text(part)
    if kind == "values" and not (isinstance(part, tuple) and all([is_name(name) for name in part])):
        raise InvalidValues(part)


def check_deed(deed):
    """Raise an error if any value has not the form of a deed."""
    if not isinstance(deed, tuple) or len(deed) == 0 or not isinstance(deed[0], str) or deed[0] not in PARTS:
        raise InvalidDeed(0)
    kinds = PARTS[deed[0]]
    if len(deed) != len(kinds) + 1:
        raise InvalidDeed(0)
    for kind, part in zip(kinds, deed[1:]):
        check_part(kind, part)


def entry_of(entries, name):
    """The pattern or the text that any value names."""
    if not isinstance(name, str) or name not in entries:
        raise UnknownName(name)
    return entries[name]


def pattern_of(entries, name):
    """The pattern that any value names."""
    found = entry_of(entries, name)
    if not isinstance(found, str):
        raise UnknownName(name)
    return found


def text_of(entries, name):
    """The text that any value names."""
    found = entry_of(entries, name)
    if not isinstance(found, tuple):
        raise UnknownName(name)
    return found


def check_new(entries, name):
    """Raise DuplicateName if an entry has this name."""
    if name in entries:
        raise DuplicateName(name)


def check_room(entries):
    """Raise TooLarge if no entry can be added."""
    if len(entries) >= MOST_NAMES:
        raise TooLarge(MOST_NAMES)


def after_entry(entries, name, entry):
    """The entries with a pattern or a text added."""
    check_new(entries, name)
    check_room(entries)
    return {**entries, name: entry}


def after_rename(entries, name, other):
    """The entries with one renamed, in its place."""
    check_new(entries, other)
    entry_of(entries, name)
    return {other if old == name else old: entries[old] for old in entries}


def after_remove(entries, name):
    """The entries without one of them."""
    entry_of(entries, name)
    return {old: entries[old] for old in entries if old != name}


def after_join(entries, name, first, second):
    """The entries with the text added that two texts make."""
    check_new(entries, name)
    text = text_of(entries, first) + text_of(entries, second)
    check_room(entries)
    if len(text) > LONGEST_TEXT:
        raise TooLarge(LONGEST_TEXT)
    return {**entries, name: text}


def after_fill(entries, name, source, values):
    """The entries with the text added that a pattern becomes."""
    check_new(entries, name)
    pattern = pattern_of(entries, source)
    texts = [text_of(entries, each) for each in values]
    order = variables(pattern)
    if len(texts) != len(order) or () in texts:
        raise InvalidValues(values)
    check_room(entries)
    return {**entries, name: substitute(pattern, dict(zip(order, texts)))}


ACTIONS = {
    "pattern": after_entry,
    "text": after_entry,
    "rename": after_rename,
    "remove": after_remove,
    "join": after_join,
    "fill": after_fill,
}


def after_deed(entries, deed):
    """New entries: what the deed, any value, makes of these, which stay as they are."""
    check_deed(deed)
    action = ACTIONS[deed[0]]
    parts = deed[1:]
    return action(entries, *parts)


class Workspace:
    """Named patterns and texts.

    The list states has the entries, a dict by name in the order of the names, after each deed or batch that stands,
    and the empty ones first. A state is never changed, so states share what they have in common.
    """

    def __init__(self):
        self.states = [{}]
        self.undone = []

    def __len__(self):
        return len(self.states[-1])

    def __eq__(self, other):
        if not isinstance(other, Workspace):
            return False
        return list(self.states[-1].items()) == list(other.states[-1].items())

    def keep(self, entries):
        """Let the entries be those from now on."""
        self.states.append(entries)
        self.undone = []

    def do(self, deed):
        """Do one deed."""
        self.keep(after_deed(self.states[-1], deed))

    def batch(self, deeds):
        """Do all deeds, or none if one of them raises an error."""
        if not isinstance(deeds, (list, tuple)):
            raise InvalidDeed(-1)
        entries = self.states[-1]
        for index, deed in enumerate(deeds):
            try:
                entries = after_deed(entries, deed)
            except (InvalidDeed, InvalidName, InvalidPattern, InvalidText, InvalidValues, DuplicateName, UnknownName,
                    TooLarge):
                raise InvalidDeed(index) from None
        self.keep(entries)

    def undo(self):
        """Take the last deed or batch back."""
        if len(self.states) == 1:
            raise NothingToUndo()
        self.undone.append(self.states.pop())

    def redo(self):
        """Do again what was taken back last."""
        if self.undone == []:
            raise NothingToRedo()
        self.states.append(self.undone.pop())

    def names(self):
        """All names in the order in which they were added."""
        return list(self.states[-1])

    def entry(self, name):
        """The pattern or the text that any value names."""
        return entry_of(self.states[-1], name)

    def named_pattern(self, name):
        """The pattern that any value names."""
        return pattern_of(self.states[-1], name)

    def named_text(self, name):
        """The text that any value names."""
        return text_of(self.states[-1], name)

    def moment(self):
        """The number of deeds and batches that stand."""
        return len(self.states) - 1

    def names_at(self, moment):
        """The names after so many deeds and batches."""
        if not is_plain_integer(moment) or not 0 <= moment < len(self.states):
            raise NoMoment(moment)
        return list(self.states[moment])

    def places(self):
        """The triples (pattern name, text name, start) of all patterns that occur in texts."""
        entries = self.states[-1]
        patterns = [name for name in entries if isinstance(entries[name], str)
                    and len(variables(entries[name])) <= MOST_SEARCHED_VARIABLES]
        texts = [name for name in entries if isinstance(entries[name], tuple)
                 and len(entries[name]) <= LONGEST_SEARCHED_TEXT]
        tried = [(first, second, find(entries[first], entries[second])) for first in patterns for second in texts]
        return [(first, second, place[0]) for first, second, place in tried if place is not None]

    def verdict(self, name):
        """Whether the named pattern is avoidable, with what proves it."""
        pattern = self.named_pattern(name)
        steps = chain(pattern)
        if steps is None:
            return "avoidable", reached(pattern)
        return "unavoidable", steps
