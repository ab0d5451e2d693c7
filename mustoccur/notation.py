"""Texts, places and workspaces as strings, and back."""

from mustoccur.avoider import GREATEST_START
from mustoccur.errors import DuplicateName, ParseError, TooLarge
from mustoccur.patterns import GREATEST_LETTER, LONGEST_TEXT, MOST_VARIABLES, VARIABLES, check_text, is_pattern
from mustoccur.workspace import Workspace, is_name

EMPTY = "."
DIGITS = "0123456789"


def format_text(text):
    """The text as a string."""
    check_text(text)
    return EMPTY if text == () else " ".join([str(letter) for letter in text])


def format_place(place):
    """The place as a string."""
    start, values = place
    parts = [name + "=" + ",".join([str(letter) for letter in values[name]]) for name in values]
    return " ".join([str(start)] + parts)


def format_pattern(pattern):
    """The pattern as a word."""
    return EMPTY if pattern == "" else pattern


def format_entry(entry):
    """The pattern or the text as a string."""
    return format_pattern(entry) if isinstance(entry, str) else format_text(entry)


def format_line(name, entry):
    """The line of a written workspace for an entry."""
    word = "pattern" if isinstance(entry, str) else "text"
    return " ".join([word, name, format_entry(entry)])


def format_workspace(workspace):
    """The workspace as a string, one line for each name."""
    return "\n".join([format_line(name, workspace.entry(name)) for name in workspace.names()])


def is_number(digits, greatest):
    """Whether the digits, at least one, are a number without leading zeros that is not above the greatest one."""
    return (digits == "0" or digits[0] != "0") and int(digits) <= greatest


def number_end(line, at, greatest):
    """The index where the longest number ends that begins at index at and is not above the greatest one.

    It is the index at itself if no number begins there.
    """
    end = at
    while end < len(line) and line[end] in DIGITS and is_number(line[at:end + 1], greatest):
        end += 1
    return end


def read_letters(line, at, separator):
    """The text of one letter or more, as long as possible, that begins at index at, and the index where it ends."""
    letters = []
    while True:
        end = number_end(line, at, GREATEST_LETTER)
        if end == at:
            raise ParseError(at)
        letters.append(int(line[at:end]))
        if line[end:end + 1] != separator or len(letters) == LONGEST_TEXT:
            return tuple(letters), end
        at = end + 1


def check_end(line, end):
    """Raise ParseError if the line goes on at index end."""
    if end < len(line):
        raise ParseError(end)


def parse_text(line):
    """The text that any value, if it is a written text, stands for."""
    if not isinstance(line, str):
        raise ParseError(0)
    if line.startswith(EMPTY):
        check_end(line, len(EMPTY))
        return ()
    text, end = read_letters(line, 0, " ")
    check_end(line, end)
    return text


def read_value(line, at, known):
    """The variable, its value, and the index where it ends, that begin at index at; no variable is a known one."""
    name = line[at:at + 1]
    if name == "" or name not in VARIABLES or name in known:
        raise ParseError(at)
    if line[at + 1:at + 2] != "=":
        raise ParseError(at + 1)
    text, end = read_letters(line, at + 2, ",")
    return name, text, end


def parse_place(line):
    """The place that any value, if it is a written place, stands for."""
    if not isinstance(line, str):
        raise ParseError(0)
    first_end = number_end(line, 0, GREATEST_START)
    if first_end == 0:
        raise ParseError(0)
    values = {}
    end = first_end
    while line[end:end + 1] == " " and len(values) < MOST_VARIABLES:
        name, text, end = read_value(line, end + 1, values)
        values[name] = text
    check_end(line, end)
    return int(line[:first_end]), values


def parse_pattern(word):
    """The pattern that a word stands for."""
    if word == EMPTY:
        return ""
    if word == "" or not is_pattern(word):
        raise ParseError(0)
    return word


def parse_line(line):
    """The deed that a line of a written workspace stands for; ParseError, with any offset, if it is no such line."""
    words = line.split(" ", 2)
    if len(words) < 3 or not is_name(words[1]):
        raise ParseError(0)
    word, name, written = words
    if word == "pattern":
        return word, name, parse_pattern(written)
    if word == "text":
        return word, name, parse_text(written)
    raise ParseError(0)


def parse_workspace(string):
    """A new workspace with one deed for each line of any value, if it is a written workspace."""
    if not isinstance(string, str):
        raise ParseError(0)
    box = Workspace()
    lines = [] if string == "" else string.split("\n")
    for index, line in enumerate(lines):
        try:
            box.do(parse_line(line))
        except (ParseError, DuplicateName, TooLarge):
            raise ParseError(index) from None
    return box
